import PyProof.Rows.All
import Wide.All
import OpenK.AllK
import Wide.FinOn
import HandS.ForMost
import HandS.SetFor
import HandS.DictComp
import HandS.RevRange
import HandS.Iter
import HandS.Wide
import HandS.NoneIn
import HandS.IsInst
import HandS.Zip
import HandS.Walk
import HandS.Style
import HandS.CallLocal
import HandS.TupAny
import HandS.TupMul
import KE.GoesEnum
import HandS.Conv
import HandS.Strs
import HandS.Deep
import HandS.Flow
import PyProof.ReprRoads
import PyProof.ReprLen
import PyProof.FitsInt
import KE.DatumOrd
import HandS.SortKw
import HandS.TryOnly
import HandS.Text
import HandS.ExcIs
import HandS.ExcInit
import HandS.ExcField
import KE.KExcIs
import HandS.WordsExc
import PyProof.Rows.IntBool
import PyProof.StrLawsRepr
import PySem.Challenge.RW_rightage_k17_whole_what_is_followed_is_h
set_option Elab.async false
set_option linter.all false
set_option maxRecDepth 100000
set_option maxHeartbeats 4000000
namespace Rt
open PySem PySem.Spec PyProof.Rows L2

/-! ### a def of the text as its callers see it -/
structure Cl (P : Program) (w : World) (K : PySem.W.Frag) (mg : Str → Option Value) (base : Heap) (k : Nat) (x : Str) (ps : List Str) (sp : Sp) : Prop where
  ex : ∃ (f : Addr) (fd : FuncData), FnOk P w K mg base CX0 k f fd ps sp ∧ mg x = some (.ref f) ∧ PySem.W.keepIn K (.ref f) = true ∧ Binds K fd ps []
section
variable {X : Cx}
theorem pe_cl {k : Nat} {x : Str} {ps : List Str} {sp : Sp} {p pos : Pos} {e : Expr} {es : List Expr} {t : TA} (C : Cl X.prog X.w X.K X.mg X.base k x ps sp) (hr : Room k X.A) (hg : Gl X x) (ha : PA X (e :: es) t)
    (hdb : (x == ("__debug__" : Str)) = false := by decide) (he : starEach (e :: es) X.env = (false, eval e X.env) :: starEach es X.env := by rfl) (hpl : (backTo pos (starEach es X.env)).any (·.1) = false := by rfl) :
    PE X (.Call (.Name x p) (e :: es) [] pos) (tCall sp [] E0 t) := by
  obtain ⟨f, fd, F, hm, hk, hb⟩ := C.ex
  exact pe_call F hr hg hm hk hb .nil pass0 ha hdb he hpl
end


/-! ### rules that hand on letters -/
section
variable {X : Cx}
theorem OpR.weak {f : Value → Value → Sem Value} {r r' : R2} (o : OpR X f r) (m : ∀ x y H Q, r' x y H Q → r x y H Q) : OpR X f r' := fun pn s σ H x y v u Q I a b q => o pn s σ H x y v u Q I a b (m _ _ _ _ q)
def rModL : R2 := fun x y H Q => ∃ i j : Int, x = .int i ∧ y = .int j ∧ 0 < j ∧ ∀ z : Int, z = i % j → 0 ≤ z → z < j → Q (.int z) H
theorem op_modL : OpR X (binaryOp .Mod) rModL := OpR.weak op_mod fun x y H Q h => by
  obtain ⟨i, j, rfl, rfl, hj, q⟩ := h
  exact ⟨i, j, rfl, rfl, hj, q _ rfl (Int.emod_nonneg _ (by omega)) (Int.emod_lt_of_pos _ hj)⟩
def rPowL : R2 := fun x y H Q => ∃ i j : Int, x = .int i ∧ y = .int j ∧ 0 ≤ j ∧ j ≤ 1000000 ∧ i.natAbs < 2 ^ 64 ∧ ∀ z : Int, z = i ^ j.toNat → Q (.int z) H
theorem op_powL : OpR X (binaryOp .Pow) rPowL := OpR.weak op_pow fun x y H Q h => by
  obtain ⟨i, j, rfl, rfl, h0, h1, h2, q⟩ := h
  exact ⟨i, j, rfl, rfl, ⟨h0, h1, h2⟩, q _ rfl⟩
def rMulL : R2 := fun x y H Q => ∃ i j : Int, x = .int i ∧ y = .int j ∧ CMul i j ∧ ∀ z : Int, z = i * j → Q (.int z) H
theorem op_mulL : OpR X (binaryOp .Mult) rMulL := OpR.weak op_mul fun x y H Q h => by
  obtain ⟨i, j, rfl, rfl, h2, q⟩ := h
  exact ⟨i, j, rfl, rfl, h2, q _ rfl⟩
def rAddL : R2 := fun x y H Q => ∃ i j : Int, x = .int i ∧ y = .int j ∧ ∀ z : Int, z = i + j → Q (.int z) H
theorem op_addL : OpR X (binaryOp .Add) rAddL := OpR.weak op_add fun x y H Q h => by
  obtain ⟨i, j, rfl, rfl, q⟩ := h
  exact ⟨i, j, rfl, rfl, q _ rfl⟩
def rSubL : R2 := fun x y H Q => ∃ i j : Int, x = .int i ∧ y = .int j ∧ ∀ z : Int, z = i - j → Q (.int z) H
theorem op_subL : OpR X (binaryOp .Sub) rSubL := OpR.weak op_sub fun x y H Q h => by
  obtain ⟨i, j, rfl, rfl, q⟩ := h
  exact ⟨i, j, rfl, rfl, q _ rfl⟩
def rDivL : R2 := fun x y H Q => ∃ i j : Int, x = .int i ∧ y = .int j ∧ CDivW i j ∧ ∀ z : Int, z = i / j → Q (.int z) H
theorem op_divL : OpR X (binaryOp .FloorDiv) rDivL := OpR.weak op_fdivW fun x y H Q h => by
  obtain ⟨i, j, rfl, rfl, h2, q⟩ := h
  exact ⟨i, j, rfl, rfl, h2, q _ rfl⟩
def rSetLL : V → V → V → Hp → (Hp → Prop) → Prop := fun o i v H Q => ∃ p xs k j, o = .ref p ∧ i = .int k ∧ H p = some (.lst xs) ∧ ixN xs.length k = some j ∧ ∀ H', H' = upd H p (.lst (xs.set j v)) → Q H'
theorem set_listL : PSet X rSetLL := fun pn s σ H o i v ov iv u Q I a b c h => set_list pn s σ H o i v ov iv u Q I a b c (by
  obtain ⟨p, xs, k, j, e1, e2, e3, e4, q⟩ := h
  exact ⟨p, xs, k, j, e1, e2, e3, e4, q _ rfl⟩)
def tTupL (t : TA) : TE := fun σ H Q => t σ H fun xs H1 => xs.length ≤ sizeLine ∧ ∀ p H2, H1 p = none → H2 = upd H1 p (.tup xs) → Q (.ref p) H2
def tLstL (t : TA) : TE := fun σ H Q => t σ H fun xs H1 => xs.length ≤ sizeLine ∧ ∀ p H2, H1 p = none → H2 = upd H1 p (.lst xs) → Q (.ref p) H2
/-- consequence -/
theorem PA.weak {es : List Expr} {t t' : TA} (h : PA X es t) (m : ∀ σ H Q, t' σ H Q → ∃ Q', t σ H Q' ∧ ∀ v H', Q' v H' → Q v H') : PA X es t' := ⟨fun po pn s σ H Q I q => by
  obtain ⟨Q', a, b⟩ := m _ _ _ q
  exact wpAny_mono (h.run po pn s σ H Q' I a) (fun us s1 ⟨vs, H1, I1, r1, q1⟩ => ⟨vs, H1, I1, r1, b _ _ q1⟩) fun _ _ z => z⟩
theorem pe_tupL {es : List Expr} {t : TA} {x1} {pos : Pos} (h : PA X es t) : PE X (.Tuple es x1 pos) (tTupL t) :=
  ⟨fun pn s σ H Q I q => (pe_tup (x1 := x1) (pos := pos) (PA.weak (t' := fun σ H Q => ∃ Q', t σ H Q' ∧ ∀ v H', Q' v H' → Q v H') h fun _ _ _ z => z)).run pn s σ H Q I ⟨_, q, fun xs H1 z => ⟨z.1, fun p hp => z.2 p _ hp rfl⟩⟩⟩
theorem pe_lstL {es : List Expr} {t : TA} {pos : Pos} (h : PA X es t) : PE X (.List es pos) (tLstL t) :=
  ⟨fun pn s σ H Q I q => (pe_lst (pos := pos) (PA.weak (t' := fun σ H Q => ∃ Q', t σ H Q' ∧ ∀ v H', Q' v H' → Q v H') h fun _ _ _ z => z)).run pn s σ H Q I ⟨_, q, fun xs H1 z => ⟨z.1, fun p hp => z.2 p _ hp rfl⟩⟩⟩
end

theorem sz {n : Nat} (h : n ≤ 100000) : n ≤ sizeLine := Nat.le_trans h (by decide)
theorem szl {n : Nat} (h : n < 100000) : n < sizeLine := Nat.lt_of_lt_of_le h (by decide)
theorem atI_in {α : Type} {xs : List α} {i : Int} (h0 : 0 ≤ i) (h : i < xs.length) : ∃ v, atI xs i = some v ∧ v ∈ xs ∧ xs[i.toNat]? = some v := by
  have h2 : i.toNat < xs.length := by omega
  have e : xs[i.toNat]? = some xs[i.toNat] := List.getElem?_eq_getElem h2
  refine ⟨xs[i.toNat], ?_, List.getElem_mem h2, e⟩
  have := atI_nat e
  rwa [Int.toNat_of_nonneg h0] at this
theorem ixN_in {n : Nat} {i : Int} (h0 : 0 ≤ i) (h : i < n) : ixN n i = some i.toNat := by
  unfold ixN
  rw [if_pos h0, if_pos h]

/-! ### rules whose written part is named (for comprehensions) -/
section
variable {X : Cx} {K : PySem.W.Frag}
theorem call_tupK (e : X.K = K := by rfl) : CallR X (.type "tuple") (fun xs H Q => ∃ p ys, xs = [.ref p] ∧ ((SqL K H p ys ∧ ∀ l, H l = none → Q (.ref l) (upd H l (.tup ys))) ∨ (SqT K H p ys ∧ Q (.ref p) H))) := by
  subst e
  exact call_tuple_of
theorem call_lenK (e : X.K = K := by rfl) : CallR X (.builtin "len") (fun xs H Q => ∃ x n, xs = [x] ∧ LenV K x H n ∧ Q (.int n) H) := by
  subst e
  exact call_len
theorem ix_tupK (e : X.K = K := by rfl) : IxR X (rIxT K) := by
  subst e
  exact ix_tup
theorem ix_listK (e : X.K = K := by rfl) : IxR X (rIxL K) := by
  subst e
  exact ix_list
end
end Rt
namespace Rt
open PySem PySem.Spec PyProof.Rows L2
/-! ### defs that are called where nothing is being shown (no guard stands around) -/
structure FnG (P : Program) (w : World) (K : PySem.W.Frag) (mg : Str → Option Value) (base : Heap) (k : Nat) (f : Addr) (fd : FuncData) (ps : List Str) (sp : Sp) : Prop where
  many : ∀ vs H Q E, sp vs H Q E → vs.length = ps.length
  goes : ∀ (A : Around) (outer : List Env) (s : Shared) (H : Hp) (args : Args) (us : List Value) (vs : List V) (Q : VK) (E : XK), Room k A → A.guards = some [] → Env0 P w K mg base A outer s H → BindsTo s fd args (ps.zip us) → Vals vs us → sp vs H Q E →
    codeAny (model P w) A (.call (.ref f) args) (CR CX0 outer P w H s Q E) s
section
variable {P : Program} {w : World} {K : PySem.W.Frag} {mg : Str → Option Value} {base : Heap}
theorem okG {x qual : Str} {st : Stmt} {f : Addr} {fd : FuncData} {N ps : List Str} {k : Nat} {sp : Sp} (F : Fun K x qual st f fd) (S : FnScope N ps (defScope st)) (many : ∀ vs H Q E, sp vs H Q E → vs.length = ps.length)
    (walk : ∀ (cdv : Value) (A : Around) (outer : List Env) (s : Shared) (H : Hp) (vs : List V) (Q : VK) (E : XK), Room k (A.deeper (envOfC qual (defScope st) s.heap.objs.size f cdv)) → (A.deeper (envOfC qual (defScope st) s.heap.objs.size f cdv)).guards = some [] → sp vs H Q E →
      ∃ t, PSs (cxOf CX0 P w K mg base N qual (defScope st) f cdv A outer s H E).nox (defBody st) t ∧ t { nx := fun _ H' => Q .non H', rt := Q } (start N vs) H) : FnG P w K mg base (k + 1) f fd ps sp := by
  obtain ⟨oc, od, kV, doc, pm, an, cdv, ct, osl, rfl, lk, hcd⟩ := F.ex
  refine ⟨many, fun A outer s H args us vs Q E room free e0 binds vals hsp => ?_⟩
  have cnt := many vs H Q E hsp
  have stands : ∀ b o, base.get? b = some o → s.heap.get? b = some o := fun b o e => (e0.bs b o e).1
  have inK : K.In s.heap := e0.mod.kin.keeps stands
  have kinds : ∀ y ∈ ps.zip us, (defScope st).names.lookup y.1 = some .local ∨ ((defScope st).names.lookup y.1 = some .cell ∧ ((cellsFrom (s.heap.objs.size + 1) (defScope st).names []).lookup y.1).isSome = true) := by
    rintro ⟨nm, vl⟩ hm
    exact (S.par nm (List.of_mem_zip hm).1).imp id fun c => ⟨c, PySem.W.cellsFrom_some _ _ _ (.inl c)⟩
  refine codeAny_call_function room.depth (inK _ _ lk) rfl S.co S.gen rfl (PySem.W.codeRec_of inK hcd) (binds _ _ _ _ (wpAny_newFunctionEnv_cells S.kind kinds fun env he s1 fresh => ?_))
  subst he
  refine ⟨(e0.mod.nolimit.keeps stands).keeps fresh.toInCall.keep, codeAny_func ?_⟩
  obtain ⟨t, ht, hq⟩ := walk cdv A outer s H vs Q E (room.deeper _) free hsp
  have J0 : Inv (cxOf CX0 P w K mg base N qual (defScope st) f cdv A outer s H E) [] (start N vs) H s1 := inv_start S room.hd e0 cnt vals fresh
  refine wpAny_mono (ht.nox.run [] s1 (start N vs) H _ J0 hq) (fun fl s2 done => ?_) fun _ _ z => z
  cases fl with
  | ret u => obtain ⟨v, σ2, H2, J, rv, qv⟩ := done; exact ⟨v, H2, J.os, J.bare, J.base, J.hok, rv, qv⟩
  | next => obtain ⟨σ2, H2, J, qv⟩ := done; exact ⟨V.non, H2, J.os, J.bare, J.base, J.hok, rfl, qv⟩
  | brk => obtain ⟨_, _, _, qv⟩ := done; exact qv.elim
  | cont => obtain ⟨_, _, _, qv⟩ := done; exact qv.elim
theorem FnG.of {k : Nat} {f : Addr} {fd : FuncData} {ps : List Str} {sp : Sp} (F : FnOk P w K mg base CX0 k f fd ps sp) : FnG P w K mg base k f fd ps sp :=
  ⟨F.len, fun A outer s H args us vs Q E room _ => F.run A outer s H args us vs Q E room⟩
end
structure ClG (P : Program) (w : World) (K : PySem.W.Frag) (mg : Str → Option Value) (base : Heap) (k : Nat) (x : Str) (ps : List Str) (sp : Sp) : Prop where
  ex : ∃ (f : Addr) (fd : FuncData), FnG P w K mg base k f fd ps sp ∧ mg x = some (.ref f) ∧ PySem.W.keepIn K (.ref f) = true ∧ Binds K fd ps []
section
variable {X : Cx}
theorem run_G {k : Nat} {f : Addr} {fd : FuncData} {ps : List Str} {sp : Sp} {pn : List (Addr × Obj)} {σ : L2.St} {H : Hp} {s : Shared} {Q : VK} {us : List Value} {vs : List V} (F : FnG X.prog X.w X.K X.mg X.base k f fd ps sp) (room : Room k X.A) (free : X.A.guards = some []) (bd : Binds X.K fd ps [])
    (I : Inv X pn σ H s) (r : Vals vs us) (h : sp (vs ++ []) H Q E0) : wpAny (model X.prog X.w) X.A (call (.ref f) us) (EP X pn σ Q) X.xe s := by
  have r2 : Vals (vs ++ []) (us ++ []) := r.append .nil
  refine wpAny_call (codeAny_mono (F.goes X.A X.stack s H ⟨us, []⟩ (us ++ []) (vs ++ []) Q E0 room free I.env0 (bd s us I.kIn (by rw [← r2.length]; exact F.many _ _ _ _ h)) r2 h) fun res s2 hq => ?_)
  cases res with
  | error e => exact (hq : False).elim
  | ok fl => cases fl with
    | ret u => exact I.after hq
    | next => exact (hq : False).elim
    | brk => exact (hq : False).elim
    | cont => exact (hq : False).elim
theorem pe_clG {k : Nat} {x : Str} {ps : List Str} {sp : Sp} {p pos : Pos} {e : Expr} {es : List Expr} {t : TA} (C : ClG X.prog X.w X.K X.mg X.base k x ps sp) (room : Room k X.A) (free : X.A.guards = some []) (hg : Gl X x) (ha : PA X (e :: es) t)
    (hdb : (x == ("__debug__" : Str)) = false := by decide) (he : starEach (e :: es) X.env = (false, eval e X.env) :: starEach es X.env := by rfl) (hpl : (backTo pos (starEach es X.env)).any (·.1) = false := by rfl) :
    PE X (.Call (.Name x p) (e :: es) [] pos) (tCall sp [] E0 t) := by
  obtain ⟨f, fd, F, hm, hk, hb⟩ := C.ex
  refine ⟨fun pn s σ H Q I h => wpAny_Call_Name_kw (ld_glob I hg hm ?_ hdb)⟩
  exact PySem.W.callWith_K (h₀ := X.base) I.ok.mod.kin hk (thn (ha.run pos pn s σ H _ I h) fun us s1 ⟨vs, H1, I1, r, q⟩ => ⟨I1.kIn, run_G F room free hb I1 r q⟩) he hpl
/-! ### repr of data -/
def rRepr (K : PySem.W.Frag) : List V → Hp → VK → Prop := fun xs H Q => ∃ (a : Addr) (d : PyData), xs = [.ref a] ∧ Dp K H (.ref a) d ∧ d.showable = true ∧ d.hasDict = false ∧ d.depth ≤ 60 ∧ d.shown.length ≤ sizeLine ∧ ∀ z : Str, z = d.shown → Q (.str z) H
theorem call_repr (free : X.A.guards = some []) (hu : X.A.units + 64 < cLine) : CallR X (.builtin "repr") (rRepr X.K) := by
  intro pn s σ H xs us Q I r h
  obtain ⟨a, d, rfl, hd, h1, h2, h3, h4, q⟩ := h
  obtain ⟨u, rfl, r1⟩ := vals1 r
  obtain ⟨as, rd⟩ := Dp.reads I d _ u hd r1
  cases r1
  exact repr_of_reads' rd h1 (fun z => by rw [h2] at z; cases z) free (by omega) (fun _ _ e => e) (fun h' u tk hk => ⟨.str _, H, I.kept hk, ⟨_, rfl⟩, q _ rfl⟩) h4
def rReprB : List V → Hp → VK → Prop := fun xs H Q => ∃ b : Bool, xs = [.bl b] ∧ ∀ z : Str, z = (if b then Str.ofString "True" else Str.ofString "False") → Q (.str z) H
theorem call_reprB : CallR X (.builtin "repr") rReprB := by
  intro pn s σ H xs us Q I r h
  obtain ⟨b, rfl, q⟩ := h
  obtain ⟨u, rfl, r1⟩ := vals1 r
  cases r1
  exact PySem.P.repr_of_bool ⟨.str _, H, I.tok _, ⟨_, rfl⟩, q _ rfl⟩
end
/-! ### the law itself, called where no guard stands -/
theorem lawG {P : Program} {w : World} {K : PySem.W.Frag} {mg mb : Str → Option Value} {k : Nat} {fa a : Addr} {fd : FuncData} {x : Str} {sp : Sp} {s0 : Shared} {us : List Value} {ns : List Int}
    (inK : K.In s0.heap) (gl : s0.heap.Ns mainGlobals mg) (bl : s0.heap.Ns builtinsNs mb) (bb : ∀ x : Str, x ≠ "__name__" → mb x = bootBuiltins x) (nl : s0.heap.NoLimit) (ng : s0.gens = #[])
    (sc : s0.heap.get? a = some { cls := .type "list", data := .seq us.toArray }) (hin : IntsAre us ns) (short : ns.length ≤ sizeLine) (room : Room k callerA)
    (F : ∀ base : Heap, K.In base → base.Ns mainGlobals mg → FnG P w K mg base k fa fd [x] sp) (bd : ∀ (s : Shared) (u : Value), BindsTo s fd ⟨[u], []⟩ [(x, u)])
    (hsp : ∀ H : Hp, Only H → SqL K H a (ns.map V.int) → sp [.ref a] H (fun v _ => v = .bl true) E0) :
    codeAny (model P w) callerA (.call (.ref fa) ⟨[.ref a], []⟩) (fun r s2 => r = .ok (.ret (.bool true)) ∧ OldK s0.heap s2.heap ∧ s2.os = s0.os ∧ AllBare s2.gens) s0 := by
  have rel := vals_ints hin
  have main : ∀ H : Hp, Only H → SqL K H a (ns.map V.int) → HOk P w H s0.heap → (∀ b u, H b = some u → b = a ∧ K.lookup a = none) →
      codeAny (model P w) callerA (.call (.ref fa) ⟨[.ref a], []⟩) (fun r s2 => r = .ok (.ret (.bool true)) ∧ OldK s0.heap s2.heap ∧ s2.os = s0.os ∧ AllBare s2.gens) s0 := by
    intro H only seq hok just
    have free : ∀ {b : Addr}, (b = a → K.lookup a = none → False) → H b = none := fun {b} no => by
      cases z : H b with
      | none => rfl
      | some u => exact (no (just b u z).1 (just b u z).2).elim
    have spaces : ∀ {b : Addr} {m : Str → Option Value}, s0.heap.Ns b m → (hidT s0.heap H).Ns b m := fun {b m} h => by
      obtain ⟨o, es, ep, e, d, r⟩ := h
      refine ⟨o, es, ep, hidT_get e (free fun z _ => ?_), d, r⟩
      subst z
      rw [sc] at e
      cases e
      cases d
    have inB : K.In (hidT s0.heap H) := fun b o e => hidT_get (inK b o e) (free fun z n => by
      subst z
      rw [n] at e
      cases e)
    have md : Mod K mg (hidT s0.heap H) := by
      obtain ⟨mc, n1, n2⟩ := nl
      exact ⟨inB, spaces gl, ⟨mb, spaces bl, bb⟩, ⟨mc, spaces n1, n2⟩⟩
    have en : Env0 P w K mg (hidT s0.heap H) callerA [] s0 H := ⟨rfl, md, fun b o e => of_hidT e, Nat.le_of_eq (hidT_size _ _), trivial, (fun b z => nomatch (show b ∈ ([] : List Addr) from z)), hok, .of_eq ng⟩
    refine codeAny_mono ((F _ inB (spaces gl)).goes callerA [] s0 H ⟨[.ref a], []⟩ [.ref a] [.ref a] _ _ room rfl en (bd s0 (.ref a)) (.cons rfl .nil) (hsp H only seq)) fun r s2 h => ?_
    match r, h with
    | .error e, h => exact (h : False).elim
    | .ok .next, h => exact (h : False).elim
    | .ok .brk, h => exact (h : False).elim
    | .ok .cont, h => exact (h : False).elim
    | .ok (.ret u), h =>
      obtain ⟨v, H2, os, bare, un, hok2, rv, rfl⟩ := h
      obtain rfl : u = Value.bool true := rv
      refine ⟨rfl, OldK.of_keep fun b o e => ?_, os, bare⟩
      rcases only b with z | ⟨ob, xs, z⟩
      · exact un.keep b o e z (fun m => nomatch (show b ∈ ([] : List Addr) from m)) (fun m => nomatch m)
      · have e1 := (hok b _ z).1
        have e2 := (hok2 b _ (un.frzs b ob _ z)).1
        rw [e] at e1
        cases e1
        exact e2
  cases own : K.lookup a with
  | some o =>
    have e := inK a o own
    rw [sc] at e
    cases e
    exact main (fun _ => none) (fun _ => .inl rfl) (.inr ⟨_, us.toArray, _, own, rfl, rfl, rfl, by rw [List.size_toArray, hin.length]; exact short, by simpa using rel⟩) (fun b u z => nomatch z) (fun b u z => nomatch z)
  | none =>
    refine main (fun b => if b = a then some (.frz { cls := .type "list", data := .seq us.toArray } (.lst (ns.map V.int))) else none) (fun b => ?_) (.inl (.inr ⟨{ cls := .type "list", data := .seq us.toArray }, if_pos rfl⟩)) (fun b u z => ?_) (fun b u z => ?_)
    · by_cases e : b = a
      · exact .inr ⟨_, _, if_pos e⟩
      · exact .inl (if_neg e)
    · by_cases e : b = a
      · have z2 := (if_pos e).symm.trans z
        cases z2
        subst e
        exact ⟨sc, by rw [List.length_map]; exact short, us, _, rel, sc⟩
      · exact nomatch ((if_neg e).symm.trans z)
    · by_cases e : b = a
      · exact ⟨e, own⟩
      · exact nomatch ((if_neg e).symm.trans z)
theorem walk_G {l : PySem.W.OpenLaw} {n k : Nat} {q : Program} {loose : List Str} {XP : (Str → Option Value) → Heap → Prop} {YP : World → Heap → Prop} {d : DefRec} {K : Params → PySem.W.Frag} {sp : World → Sp} {x : Str}
    (most : l.most = some n) (n2 : n ≤ sizeLine) (nd : d.params.defaults = []) (room : Room k callerA) (hY : ∀ (w : World) (h : Heap), YP w h → (K w.params).In h)
    (F : ∀ (w : World) (mg : Str → Option Value) (fa : Addr) (h : Heap), (K w.params).In h → h.Ns mainGlobals mg → mg d.name = some (.ref fa) →
      ∃ fd : FuncData, (∀ (s : Shared) (u : Value), BindsTo s fd ⟨[u], []⟩ [(x, u)]) ∧ ∀ base : Heap, (K w.params).In base → base.Ns mainGlobals mg → FnG l.prog w (K w.params) mg base k fa fd [x] (sp w))
    (hsp : ∀ (w : World) (H : Hp) (a : Addr) (ns : List Int), ns.length ≤ n → Only H → SqL (K w.params) H a (ns.map V.int) → sp w [.ref a] H (fun v _ => v = .bl true) E0) :
    PySem.W.WalkO q loose XP YP l.row.toRowW d [] (fun f vs => PySem.call f vs) := by
  refine Att.attach_call most nd fun w sA sB mg mb fa o pm cd doc a us ns G Y ho hd hcd hmg hobj hints hlen hg => ?_
  obtain ⟨fd, hb, hF⟩ := F w mg fa _ (hY w _ Y) G.T.g hmg
  exact lawG (hY w _ Y) G.T.g G.T.b G.T.builtins G.T.nolimit hg hobj hints (Nat.le_trans hlen n2) room hF hb fun H only seq => hsp w H a ns hlen only seq
end Rt
namespace Rt
open PySem PySem.Spec PyProof.Rows L2
theorem at_new {H H' : Hp} {p : Addr} {o : HO} (e : H' = upd H p o) : H' p = some o := by
  rw [e]
  exact upd_same
theorem SqT.frz {K : PySem.W.Frag} {H : Hp} {a : Addr} {o : Obj} {xs : List V} (h : H a = some (.frz o (.tup xs))) : SqT K H a xs := .inl (.inr ⟨o, h⟩)
section
variable {X : Cx}
/-- tuple(list), its object known -/
def rTupF (K : PySem.W.Frag) : List V → Hp → VK → Prop := fun xs H Q => ∃ p ys, xs = [.ref p] ∧ SqL K H p ys ∧ ∀ l o H', H l = none → o.dict = none → H' = upd H l (.frz o (.tup ys)) → Q (.ref l) H'
theorem call_tupF : CallR X (.type "tuple") (rTupF X.K) := by
  intro pn s σ H xs us Q I r h
  obtain ⟨p, ys, rfl, hq, q⟩ := h
  obtain ⟨u, rfl, rx⟩ := vals1 r
  cases rx
  obtain ⟨its, r', pl, hz⟩ := I.list hq
  have hln := r'.length
  refine call_tuple_list pl.isList (fun h2 kp => ?_) (by simp only [List.size_toArray] <;> omega)
  have J : Inv X pn σ H { s with heap := h2 } := I.kept (t' := s.toks) kp
  have J2 : Inv X pn σ (upd H h2.objs.size (.frz { cls := .type "tuple", data := .seq its.toArray } (.tup ys))) { s with heap := h2.push { cls := .type "tuple", data := .seq its.toArray } } :=
    J.laid (t' := s.toks) (fun b o e => Heap.get?_push_of_some _ e) (Nat.le_refl _) (show ObjOk X.prog X.w _ _ _ (.frz { cls := .type "tuple", data := .seq its.toArray } (.tup ys)) from ⟨Heap.get?_push_size _ rfl, hz, its, r', IsTup.new _ _⟩)
  exact ⟨.ref h2.objs.size, _, J2, rfl, q _ _ _ (J.hok.fresh (Nat.le_refl _)) rfl rfl⟩
/-- t.index(z) of such a tuple of texts -/
def tIdxF (K : PySem.W.Frag) (to : TE) (t : TA) : TE := fun σ H Q => to σ H fun x H1 => ∃ p o, ∃ ys : List Str, x = .ref p ∧ H1 p = some (.frz o (.tup (ys.map V.str))) ∧ o.dict = none ∧ t σ H1 fun xs H2 => ∃ z j, xs = [.str z] ∧ SqT K H2 p (ys.map V.str) ∧ ys[j]? = some z ∧ (∀ m, m < j → ys[m]? ≠ some z) ∧ Q (.int (j : Nat)) H2
theorem pe_idxF {ob e : Expr} {to : TE} {t : TA} {apos cpos : Pos} (ho : PE X ob to) (ha : PA X [e] t)
    (hbase : attributeBase ob "index" X.env (eval ob X.env) = eval ob X.env := by rfl)
    (hfew : ((backTo cpos (starEach [e] X.env)).all (fun x => !x.1) && (backToKw cpos (keywordEach [] X.env)).all (fun x => x.1.isSome) && decide (([e] : List Expr).length + ([] : List Keyword).length + (if ([] : List Keyword).isEmpty then 0 else 1) < 30)) = true := by rfl)
    (hline : (apos.endLine == cpos.line) = true := by rfl) (hs : starEach [e] X.env = (false, eval e X.env) :: starEach [] X.env := by rfl) (hplain : (backTo cpos (starEach [] X.env)).any (·.1) = false := by rfl) :
    PE X (.Call (.Attribute ob "index" apos) [e] [] cpos) (tIdxF X.K to t) := by
  refine ⟨fun pn s σ H Q I h => wpAny_Call_method_late hbase hfew hline rfl (thn (ho.run pn s σ H _ I h) fun v s1 done => ?_)⟩
  obtain ⟨x, H1, I1, r1, p, o, ys, rfl, hp, hd, q1⟩ := done
  obtain ⟨he, _, its, _, hT⟩ := I1.hok p _ hp
  have ev : v = Value.ref p := by cases r1; rfl
  refine ⟨"tuple", "tuple.index", PySem.F.plainAttrs_tuple, PySem.F.slot_tuple_index, PySem.F.type_tuple_index, by rw [ev]; exact hT.typeIs, fun a z => ?_, ?_⟩
  · rw [ev] at z
    cases z
    exact ⟨o, he, hd⟩
  have hA := ha.run cpos pn s1 σ H1 _ I1 q1
  rw [hs] at hA ⊢
  refine Calls.callWith_builtin (by show (false || (backTo cpos (starEach [] X.env)).any (·.1)) = false; rw [hplain] <;> rfl) (Calls.evalArgs_plain (thn hA fun us s2 more => ?_))
  obtain ⟨vs, H2, I2, r2, z, j, e1, e2, e3, e4, q2⟩ := more
  exact mt_tup_index pn s2 σ H2 (.ref p) vs v us Q I2 r1 r2 ⟨p, ys, z, j, rfl, e1, e2, e3, e4, q2⟩
end
end Rt
namespace Rt
open PySem PySem.Spec PyProof.Rows L2
/-! ### enumerate(tuple) -/
theorem new_enum {v : Value} {o : Obj} {Hq : Heap → Prop} (B : Begins v o Hq) :
    Meets (Builtin.«enumerate.__new__» ⟨[.type "enumerate", v], []⟩) (fun _ R s => Hq s.heap ∧
      R (.ok (.ret (.ref (s.heap.push o).objs.size))) { s with heap := (s.heap.push o).push { cls := .type "enumerate", data := .fields #[.none, .bool false, .ref s.heap.objs.size, rawInt 0, .none, .none] } }) :=
  .of_wp fun prog w A R s h => by
    obtain ⟨hp, gn, dr, tk, os⟩ := s; obtain ⟨hq, h⟩ := h
    have sub := sub_enumerate
    have it : ∀ {A2 : Around} {E : Value → Shared → Prop} {Q : Value → Shared → Prop}, Q (.ref hp.objs.size) ⟨hp.push o, gn, dr, tk, os⟩ → wpAny (model prog w) A2 (pyIter v) Q E ⟨hp, gn, dr, tk, os⟩ :=
      fun q => B.iter prog w _ _ ⟨hp, gn, dr, tk, os⟩ _ hq q
    wp_walk using it
    refine wpAny_stack_any fun st => wpAny_pure ?_
    split
    · rename_i c _ _ _ _ _
      cases (c == Value.type "enumerate")
      all_goals (wp_walk using it; exact ⟨_, rfl, h⟩)
    · wp_walk using it
      exact ⟨_, rfl, h⟩
section
variable {prog : Program} {w : World} {A : Around} {E : Value → Shared → Prop} {s : Shared}
theorem call_enum {v : Value} {o : Obj} {Hq : Heap → Prop} {Q : Value → Shared → Prop} (B : Begins v o Hq) (hq : Hq s.heap)
    (h : ∀ h2, IsEnum h2 (s.heap.objs.size + 1) s.heap.objs.size 0 .none → h2.get? s.heap.objs.size = some o → (∀ b ob, s.heap.get? b = some ob → h2.get? b = some ob) → Q (.ref (s.heap.objs.size + 1)) { s with heap := h2 }) :
    wpAny (model prog w) A (call (.type "enumerate") [v]) Q E s := by
  refine callType_new F.called_enumerate (by decide) (F.typeCall_enumerate_1 _) (F.newCall_enumerate_1 _) (fun obj => F.args_object_init_2 obj _) F.entry_enumerate_new (new_enum B) ⟨hq, ?_⟩
  have sz1 : (s.heap.push o).objs.size = s.heap.objs.size + 1 := Heap.size_push ..
  have en : IsEnum ((s.heap.push o).push { cls := .type "enumerate", data := .fields #[.none, .bool false, .ref s.heap.objs.size, rawInt 0, .none, .none] }) (s.heap.objs.size + 1) s.heap.objs.size 0 .none := by
    have z := Heap.get?_push_size (s.heap.push o) (o := { cls := .type "enumerate", data := .fields #[.none, .bool false, .ref s.heap.objs.size, rawInt 0, .none, .none] }) rfl
    rwa [sz1] at z
  show _ ∧ _
  rw [sz1]
  exact ⟨⟨_, en, rfl⟩, h _ en (Heap.get?_push_of_some _ (Heap.get?_push_size _ B.free)) fun b ob z => Heap.get?_push_of_some _ (Heap.get?_push_of_some _ z)⟩
end
/-- the tuple at a as it stands at each turn, each item in a new pair -/
def IteT (K : PySem.W.Frag) (a : Addr) : It :=
  ⟨fun i H => ∃ (xs : List V) (x : V), SqT K H a xs ∧ xs[i]? = some x, fun i H v H' => ∃ T x, v = .ref T ∧ H T = none ∧ H' = upd H T (.tup [.int (i : Nat), x]) ∧ ∀ xs, SqT K H a xs → xs[i]? = some x, fun i H => ∃ xs : List V, SqT K H a xs ∧ xs.length = i⟩
theorem turn_enumT {P : Program} {w : World} {K : PySem.W.Frag} {elts : List Expr} {kk : Nat} {tpos : Pos} (a e it : Addr) :
    Turn P w K (.Tuple elts kk tpos) (IteT K a) [e, it] e (fun i h => (∃ old, IsEnum h e it ((i : Nat) : Int) old) ∧ h.IsTupleIter it a i ∧ e ≠ it ∧ a ≠ it ∧ a ≠ e) where
  mem := by simp
  obj := by
    rintro i h ⟨⟨old, he⟩, ⟨o, ho, hc, hd⟩, _⟩ b hb
    rcases (by simpa using hb : b = e ∨ b = it) with rfl | rfl
    · exact ⟨_, he, fun v q => nomatch q⟩
    · exact ⟨o, ho, fun v q => by rw [hd] at q; cases q⟩
  keep := by
    rintro i h h2 ⟨⟨old, he⟩, hi, ne⟩ k
    exact ⟨⟨old, k e (by simp) _ he⟩, hi.at fun o q => k it (by simp) o q, ne⟩
  item := by
    intro X hP hw hK hc i pn s σ H E I hf st hg
    subst hP hw hK
    obtain ⟨⟨old, he⟩, hit, ne, nai, nae⟩ := st
    obtain ⟨xs, x, hq, hx⟩ := hg
    obtain ⟨its, rv, tp, hz⟩ := I.tuple hq
    obtain ⟨u, hu, ru⟩ := rv.get hx
    have hel : e < s.heap.objs.size := Heap.lt_size he
    have hil : it < s.heap.objs.size := by obtain ⟨_, q, _⟩ := hit; exact Heap.lt_size q
    have hlt : i < its.toArray.size := by simpa using (List.getElem?_eq_some_iff.mp hu).1
    refine wpAny_pyNext_enum_itemD (Draws.tuple (A := X.A.in1) (I.ok.hd hc) it a nai its.toArray) he ⟨hit, tp⟩ hlt ne (by simp [ne, Ne.symm nae]) fun y h2 tk hy ho hst hT hsz hk => ?_
    have eu : y = u := by
      have : its.toArray[i]? = some u := by simpa using hu
      rw [this] at hy
      exact (Option.some.inj hy).symm
    subst eu
    refine ⟨_, rfl, wpAny_letOwnedTupleGo_enum (s := { s with heap := h2, toks := tk + 1 }) ho fun h3 he3 sb => ?_⟩
    have hT3 : h3.get? s.heap.objs.size = some { cls := .type "tuple", data := .seq #[.int i tk, y] } := (sb.2 _ (Nat.ne_of_gt hel)).trans hT
    have fresh : ObjOk X.prog X.w (upd H s.heap.objs.size (.tup [.int (i : Nat), x])) h3 s.heap.objs.size (.tup [.int (i : Nat), x]) :=
      ⟨sz (n := 2) (by decide), [.int i tk, y], .cons ⟨_, rfl⟩ (.cons ru .nil), ⟨_, hT3, rfl, _, rfl⟩⟩
    have J : Inv X pn σ (upd H s.heap.objs.size (.tup [.int (i : Nat), x])) { s with heap := h3, toks := tk + 1 } :=
      I.turnedNew (ch := [e, it]) (fun b ob hb q => (sb.2 b (fun z => hb (by simp [z]))).trans (hk b ob (fun z => hb (by simp [z])) (fun z => hb (by simp [z])) q)) hf (Nat.le_refl _) fresh
    have ci : ((i + 1 : Nat) : Int) = (i : Int) + 1 := by omega
    refine ⟨.ref s.heap.objs.size, _, J, rfl, ⟨_, x, rfl, I.hok.fresh (Nat.le_refl _), rfl, fun ys hy2 => by rw [I.tuple_inj hy2 hq]; exact hx⟩, ⟨⟨y, by rw [ci]; exact he3⟩, hst.1.at fun o q => (sb.2 it (Ne.symm ne)).trans q, ne, nai, nae⟩, fun b hb => ?_⟩
    have lt : b < s.heap.objs.size := by
      rcases (by simpa using hb : b = e ∨ b = it) with rfl | rfl
      · exact hel
      · exact hil
    rw [upd_ne (Nat.ne_of_lt lt)]
    exact (hf b hb).1
  done := by
    intro X hP hw hK hc i pn s σ H E I hf st hg
    subst hP hw hK
    obtain ⟨⟨old, he⟩, hit, ne, nai, nae⟩ := st
    obtain ⟨xs, hq, hx⟩ := hg
    obtain ⟨its, rv, tp, hz⟩ := I.tuple hq
    obtain ⟨f0, f1, f2, f3, f4, f5⟩ := hf it (by simp)
    have en : i = its.toArray.size := by rw [List.size_toArray, ← rv.length, hx]
    exact wpAny_pyNext_enum_endD (Draws.tuple (A := X.A.in1) (I.ok.hd hc) it a nai its.toArray) he ⟨by rw [← en]; exact hit, tp⟩ fun h2 eb => ⟨rfl, I.turned (t' := s.toks) (fun b o hb q => eb b o hb q) f0 f1 f3 f4 f5⟩
  self := by
    rintro A i s Q E ⟨⟨_, he⟩, _⟩ h
    exact wpAny_pyIter_enum he h
def iEnumT (K : PySem.W.Frag) (ta : TA) : TI := fun σ H R => ta σ H fun vs H1 => ∃ a xs, vs = [.ref a] ∧ SqT K H1 a xs ∧ R (IteT K a) H1
theorem pi_enumT {X : Cx} {e : Expr} {ta : TA} {p pos tpos : Pos} {elts : List Expr} {kk : Nat} (hg : Gl X "enumerate") (hm : X.mg "enumerate" = none) (ha : PA X [e] ta) (hs : starEach [e] X.env = [(false, eval e X.env)] := by rfl) :
    PI X (.Tuple elts kk tpos) (.Call (.Name "enumerate" p) [e] [] pos) (iEnumT X.K ta) := by
  refine ⟨fun pn s σ H R I h => Call_ (ld_blt I hg hm boot_enumerate (PyProof.Rows.callWith_type1 (thn (ha.run pos pn s σ H _ I h) fun us s1 done => ?_) hs rfl))⟩
  obtain ⟨vs, H1, J, r1, a, xs, rfl, hq, q⟩ := done
  obtain ⟨u, rfl, rx⟩ := vals1 r1
  cases rx
  obtain ⟨its, rv, tp, hz⟩ := J.tuple hq
  have hal : a < s1.heap.objs.size := by obtain ⟨_, z, _⟩ := tp; exact Heap.lt_size z
  refine call_enum (begins_tuple a its.toArray) tp fun h2 he hit hk => wpAny_pyIter_enum he ?_
  refine ⟨s1.heap.objs.size + 1, [s1.heap.objs.size + 1, s1.heap.objs.size], _, _, H1, rfl, J.kept (t' := s1.toks) hk, turn_enumT a (s1.heap.objs.size + 1) s1.heap.objs.size, ⟨⟨.none, he⟩, ⟨_, hit, rfl, rfl⟩, Nat.succ_ne_self _, Nat.ne_of_lt hal, Nat.ne_of_lt (Nat.lt_succ_of_lt hal)⟩, fun b hb => ?_, q⟩
  have le : s1.heap.objs.size ≤ b := by
    rcases (by simpa using hb : b = s1.heap.objs.size + 1 ∨ b = s1.heap.objs.size) with rfl | rfl
    · exact Nat.le_succ _
    · exact Nat.le_refl _
  exact J.fpOk le (J.hok.fresh le)
theorem walk_enumT {K : PySem.W.Frag} {a : Addr} {xs : List V} : Walk (IteT K a) xs.length (fun H => SqT K H a xs) (YPair (fun i => some (.int (i : Nat))) (fun i => xs[i]?)) := by
  refine ⟨fun i H hi z => ⟨xs, xs[i], z, by simp [hi]⟩, fun H z => ⟨xs, z, rfl⟩, fun i H v H' hi z y => ?_⟩
  obtain ⟨T, x, h1, h2, h3, h4⟩ := y
  exact ⟨T, .int (i : Nat), x, h1, h2, h3, rfl, h4 xs z⟩
end Rt
namespace Rt
open PySem PySem.Spec PyProof.Rows L2
/-! ### tuple * 1 -/
theorem tuple_mul1 (l : Addr) (items : Array Value) (n : Nat) (dd : Option Addr) (sl : Array (Option Value)) (u : Tok) (c1 : (items.isEmpty || (1 : Int) == 1) = true) :
    Meets (Builtin.«tuple.__mul__» ⟨[.ref l, .int 1 u], []⟩) (fun _ R s => s.heap.get? l = some { cls := .type "tuple", dict := dd, data := .seq items n, slots := sl } ∧
      R (.ok (.ret (Value.ref l))) s) :=
  .of_wp fun prog w A R s h => by
    obtain ⟨hp, g, d, tk, os⟩ := s
    obtain ⟨hl, h⟩ := h
    have f1 := AutoSeq1.idx_int
    have c0 : (decide ((1 : Int) < -(2 ^ 63)) || decide ((1 : Int) ≥ 2 ^ 63)) = false := by decide
    wp_walk using wpAny_loadPart' hl
    repeat (first
      | (refine wpAny_ite_false (decide_eq_false (by rw [c0]; exact Bool.false_ne_true)) ?_; wp_walk using wpAny_loadPart' hl)
      | (refine wpAny_ite_true (decide_eq_true c1) ?_; wp_walk using wpAny_loadPart' hl))
    exact ⟨_, rfl, h⟩
theorem smN {H : Hp} {p : Addr} {o : HO} (h : H p = none) : Same H (upd H p o) := fun b x e => by
  rw [upd_ne (ne_of_none e h)]
  exact e
section
variable {X : Cx}
/-- t * k -/
def rRepS1 : R2 := fun x y H Q => ∃ l k xs, x = .ref l ∧ y = .int k ∧ H l = some (.tup xs) ∧ xs ≠ [] ∧ 1 ≤ k ∧ k ≤ 1000 ∧ xs.length ≤ 1000 ∧ ∀ p H', Same H H' → H' p = some (.tup (List.replicate k.toNat xs).flatten) → Q (.ref p) H'
theorem op_repS1 : OpR X (binaryOp .Mult) rRepS1 := by
  intro pins s σ H x y v u Q I rx ry h
  obtain ⟨l, k, xs, rfl, rfl, hT, hne, h1, h2, hz, q⟩ := h
  by_cases e : k = 1
  · subst e
    cases rx
    obtain ⟨t, rfl⟩ := ry
    obtain ⟨its, r, ⟨⟨cls, dd, data, sl⟩, ho, hc, n, hd⟩, hs⟩ := I.tuple (SqT.of hT)
    simp only at hc hd
    subst hc hd
    refine wpAny_binaryOp_repeat_ref (T := "tuple") (U := "int") (by decide) ⟨_, ho, rfl⟩ (fun s' => typeIs_int s' 1 t) noFill_tuple_mul F.fills_int_mul F.slot_int_rmul repeat_tuple F.slot_int_index.lookup
      (call_meets F.slot_int_rmul (typeIs_int s 1 t) F.entry_int_rmul (F.args_int_rmul_2 _ _) (int_rmul_tuple 1 t l its.toArray n dd sl)
        ⟨ho, rfl, ⟨_, ho, rfl⟩, call_meets F.slot_tuple_mul ⟨_, ho, rfl⟩ F.entry_tuple_mul (F.args_tuple_mul_2 _ _) (tuple_mul1 l its.toArray n dd sl t (by simp)) ⟨ho, ?_⟩⟩)
    refine ⟨.ref l, H, I, rfl, q l H (Same.refl H) ?_⟩
    rw [hT]
    simp
  · exact op_repT pins s σ H _ _ v u Q I rx ry ⟨l, k, xs, rfl, rfl, SqT.of hT, hne, by omega, h2, hz, fun p np => q p _ (smN np) upd_same⟩
/-- t + u -/
def rCatS : R2 := fun x y H Q => ∃ a b xs ys, x = .ref a ∧ y = .ref b ∧ H a = some (.tup xs) ∧ H b = some (.tup ys) ∧ xs.length + ys.length ≤ 1000 ∧ ∀ p H', Same H H' → H' p = some (.tup (xs ++ ys)) → Q (.ref p) H'
theorem op_catS : OpR X (binaryOp .Add) rCatS := by
  intro pins s σ H x y v u Q I rx ry h
  obtain ⟨a, b, xs, ys, rfl, rfl, ha, hb, hz, q⟩ := h
  refine op_catA pins s σ H _ _ v u Q I rx ry ⟨a, b, xs, ys, rfl, rfl, SqT.of ha, SqT.of hb, sz (by omega), fun e => q b H (Same.refl H) ?_, fun _ e => q a H (Same.refl H) ?_, fun _ _ p np => q p _ (smN np) upd_same⟩
  · rw [hb, e]; rfl
  · rw [ha, e, List.append_nil]
/-- t[lo:hi] -/
def rSlS : V → Option Int → Option Int → Hp → VK → Prop := fun x lo hi H Q => ∃ a xs, x = .ref a ∧ H a = some (.tup xs) ∧ ∀ p H', Same H H' → H' p = some (.tup (cutV xs lo hi)) → Q (.ref p) H'
theorem sl_tupS : SlR X rSlS := by
  intro pins s σ H x v vl vu lo hi sl Q I rx hs pl pu h
  obtain ⟨a, xs, rfl, ha, q⟩ := h
  refine sl_tupA pins s σ H _ v vl vu lo hi sl Q I rx hs pl pu ⟨a, xs, rfl, SqT.of ha, fun hw => q a H (Same.refl H) ?_, fun _ p np => q p _ (smN np) upd_same⟩
  rw [ha]
  unfold cutV
  rw [hw.1, hw.2, List.drop_zero, Nat.sub_zero, List.take_length]
end
theorem cut_lo {xs : List V} {m : Nat} (h : m ≤ xs.length) : cutV xs none (some (m : Int)) = xs.take m := by
  unfold cutV
  rw [HT.sIx_none, HT.sIx_nat, List.drop_zero, Nat.sub_zero, Nat.min_eq_left h]
theorem cut_hi {xs : List V} {m : Nat} (h : m ≤ xs.length) : cutV xs (some (m : Int)) none = xs.drop m := by
  unfold cutV
  rw [HT.sIx_none, HT.sIx_nat, Nat.min_eq_left h, List.take_of_length_le (by rw [List.length_drop]; omega)]
theorem set_cut {xs : List V} {m : Nat} {v : V} (h : m < xs.length) : xs.take m ++ [v] ++ xs.drop (m + 1) = xs.set m v := by
  rw [List.set_eq_take_append_cons_drop, if_pos h, List.append_assoc]
  rfl
end Rt
namespace Dl
open PySem PySem.Spec PyProof.Rows L2 Rt
abbrev D := PyData
/-! ### data at values -/
def TupF (H : Hp) (a : Addr) (xs : List V) : Prop := ∃ o : Obj, H a = some (.frz o (.tup xs)) ∧ o.dict = none
/-- a key as data -/
def kD : Key → D
  | .inl i => .int i
  | .inr x => .str x
mutual
inductive Rp (M : Addr → Prop) (H : Hp) : V → D → Prop
  | non : Rp M H .non .none
  | bl (b : Bool) : Rp M H (.bl b) (.bool b)
  | int (i : Int) : Rp M H (.int i) (.int i)
  | str (x : Str) (h : x.length ≤ sizeLine) : Rp M H (.str x) (.str x)
  | tup {a : Addr} {xs : List V} {ds : List D} : TupF H a xs → ¬ M a → xs.length ≤ sizeLine → RpAll M H xs ds → Rp M H (.ref a) (.tuple ds)
  | lst {a : Addr} {xs : List V} {ds : List D} : H a = some (.lst xs) → ¬ M a → xs.length ≤ sizeLine → RpAll M H xs ds → Rp M H (.ref a) (.list ds)
  | dic {a : Addr} {kvs : List (Key × V)} {es : List (D × D)} : H a = some (.dK kvs) → ¬ M a → RpKV M H kvs es → Rp M H (.ref a) (.dict es)
inductive RpKV (M : Addr → Prop) (H : Hp) : List (Key × V) → List (D × D) → Prop
  | nil : RpKV M H [] []
  | cons {k : Key} {v : V} {kvs : List (Key × V)} {d : D} {es : List (D × D)} : Rp M H v d → RpKV M H kvs es → RpKV M H ((k, v) :: kvs) ((kD k, d) :: es)
inductive RpAll (M : Addr → Prop) (H : Hp) : List V → List D → Prop
  | nil : RpAll M H [] []
  | cons {v : V} {vs : List V} {d : D} {ds : List D} : Rp M H v d → RpAll M H vs ds → RpAll M H (v :: vs) (d :: ds)
end
def KpM (M : Addr → Prop) (H H' : Hp) : Prop := ∀ p o, ¬ M p → H p = some o → H' p = some o
theorem KpM.of {M : Addr → Prop} {H H' : Hp} (s : Same H H') : KpM M H H' := fun p o _ e => s p o e
theorem KpM.refl {M : Addr → Prop} {H : Hp} : KpM M H H := fun p o _ e => e
def Dom (M : Addr → Prop) (H : Hp) : Prop := ∀ p, M p → H p ≠ none
theorem Dom.mono {M : Addr → Prop} {H H' : Hp} (d : Dom M H) (s : Same H H') : Dom M H' := fun p m e => by
  cases z : H p with
  | none => exact d p m z
  | some o => rw [s p o z] at e; cases e
theorem Dom.not {M : Addr → Prop} {H : Hp} {p : Addr} (d : Dom M H) (e : H p = none) : ¬ M p := fun m => d p m e
mutual
theorem Rp.mono {M : Addr → Prop} {H H' : Hp} (k : KpM M H H') : ∀ {v : V} {d : D}, Rp M H v d → Rp M H' v d
  | _, _, .non => .non
  | _, _, .bl b => .bl b
  | _, _, .int i => .int i
  | _, _, .str x h => .str x h
  | _, _, .tup ⟨o, e, z⟩ n l h => .tup ⟨o, k _ _ n e, z⟩ n l (RpAll.mono k h)
  | _, _, .lst e n l h => .lst (k _ _ n e) n l (RpAll.mono k h)
  | _, _, .dic e n h => .dic (k _ _ n e) n (RpKV.mono k h)
theorem RpKV.mono {M : Addr → Prop} {H H' : Hp} (k : KpM M H H') : ∀ {vs : List (Key × V)} {ds : List (D × D)}, RpKV M H vs ds → RpKV M H' vs ds
  | _, _, .nil => .nil
  | _, _, .cons h t => .cons (Rp.mono k h) (RpKV.mono k t)
theorem RpAll.mono {M : Addr → Prop} {H H' : Hp} (k : KpM M H H') : ∀ {vs : List V} {ds : List D}, RpAll M H vs ds → RpAll M H' vs ds
  | _, _, .nil => .nil
  | _, _, .cons h t => .cons (Rp.mono k h) (RpAll.mono k t)
end
mutual
theorem Rp.reM {M M' : Addr → Prop} {H : Hp} (k : ∀ a, M' a → M a ∨ H a = none) : ∀ {v : V} {d : D}, Rp M H v d → Rp M' H v d
  | _, _, .non => .non
  | _, _, .bl b => .bl b
  | _, _, .int i => .int i
  | _, _, .str x h => .str x h
  | _, _, .tup ⟨o, e, z⟩ n l h => .tup ⟨o, e, z⟩ (fun m => (k _ m).elim n (fun q => by rw [q] at e; cases e)) l (RpAll.reM k h)
  | _, _, .lst e n l h => .lst e (fun m => (k _ m).elim n (fun q => by rw [q] at e; cases e)) l (RpAll.reM k h)
  | _, _, .dic e n h => .dic e (fun m => (k _ m).elim n (fun q => by rw [q] at e; cases e)) (RpKV.reM k h)
theorem RpKV.reM {M M' : Addr → Prop} {H : Hp} (k : ∀ a, M' a → M a ∨ H a = none) : ∀ {vs : List (Key × V)} {ds : List (D × D)}, RpKV M H vs ds → RpKV M' H vs ds
  | _, _, .nil => .nil
  | _, _, .cons h t => .cons (Rp.reM k h) (RpKV.reM k t)
theorem RpAll.reM {M M' : Addr → Prop} {H : Hp} (k : ∀ a, M' a → M a ∨ H a = none) : ∀ {vs : List V} {ds : List D}, RpAll M H vs ds → RpAll M' H vs ds
  | _, _, .nil => .nil
  | _, _, .cons h t => .cons (Rp.reM k h) (RpAll.reM k t)
end
theorem TupF.sq {K : PySem.W.Frag} {H : Hp} {a : Addr} {xs : List V} (h : TupF H a xs) : SqT K H a xs := by
  obtain ⟨o, e, _⟩ := h
  exact .inl (.inr ⟨o, e⟩)
mutual
theorem Rp.dp {K : PySem.W.Frag} {M : Addr → Prop} {H : Hp} : ∀ {v : V} {d : D}, Rp M H v d → d.hasDict = false → Dp K H v d
  | _, _, .non, _ => .non
  | _, _, .bl b, _ => .bl b
  | _, _, .int i, _ => .int i
  | _, _, .str x h, _ => .str x
  | _, _, .tup t n l h, e => .tup t.sq (RpAll.dp h e)
  | _, _, .lst t n l h, e => .lst (SqL.of t) (RpAll.dp h e)
  | _, _, .dic t n h, e => nomatch e
theorem RpAll.dp {K : PySem.W.Frag} {M : Addr → Prop} {H : Hp} : ∀ {vs : List V} {ds : List D}, RpAll M H vs ds → PyData.hasDictAll ds = false → DpAll K H vs ds
  | _, _, .nil, _ => .nil
  | _, _, .cons h t, e => by
    have e2 := Bool.or_eq_false_iff.mp e
    exact .cons (Rp.dp h e2.1) (RpAll.dp t e2.2)
end
theorem RpAll.len {M : Addr → Prop} {H : Hp} : ∀ {vs : List V} {ds : List D}, RpAll M H vs ds → vs.length = ds.length
  | _, _, .nil => rfl
  | _, _, .cons _ t => congrArg (· + 1) t.len
theorem RpAll.get {M : Addr → Prop} {H : Hp} : ∀ {vs : List V} {ds : List D} {i : Nat} {d : D}, RpAll M H vs ds → ds[i]? = some d → ∃ v, vs[i]? = some v ∧ Rp M H v d
  | _, _, _, _, .nil, e => nomatch e
  | _, _, 0, _, .cons h t, e => by cases e; exact ⟨_, rfl, h⟩
  | _, _, i + 1, _, .cons h t, e => t.get (i := i) e
theorem RpAll.getV {M : Addr → Prop} {H : Hp} : ∀ {vs : List V} {ds : List D} {i : Nat} {v : V}, RpAll M H vs ds → vs[i]? = some v → ∃ d, ds[i]? = some d ∧ Rp M H v d
  | _, _, _, _, .nil, e => nomatch e
  | _, _, 0, _, .cons h t, e => by cases e; exact ⟨_, rfl, h⟩
  | _, _, i + 1, _, .cons h t, e => t.getV (i := i) e
theorem RpAll.app {M : Addr → Prop} {H : Hp} : ∀ {vs ws : List V} {ds es : List D}, RpAll M H vs ds → RpAll M H ws es → RpAll M H (vs ++ ws) (ds ++ es)
  | _, _, _, _, .nil, b => b
  | _, _, _, _, .cons h t, b => .cons h (t.app b)
theorem RpAll.drop {M : Addr → Prop} {H : Hp} : ∀ {vs : List V} {ds : List D} (n : Nat), RpAll M H vs ds → RpAll M H (vs.drop n) (ds.drop n)
  | _, _, 0, h => h
  | _, _, n + 1, .nil => .nil
  | _, _, n + 1, .cons h t => t.drop n
theorem RpAll.take {M : Addr → Prop} {H : Hp} : ∀ {vs : List V} {ds : List D} (n : Nat), RpAll M H vs ds → RpAll M H (vs.take n) (ds.take n)
  | _, _, 0, h => .nil
  | _, _, n + 1, .nil => .nil
  | _, _, n + 1, .cons h t => .cons h (t.take n)
theorem RpAll.set {M : Addr → Prop} {H : Hp} {v : V} {d : D} (h : Rp M H v d) : ∀ {vs : List V} {ds : List D} (n : Nat), RpAll M H vs ds → RpAll M H (vs.set n v) (ds.set n d)
  | _, _, n, .nil => .nil
  | _, _, 0, .cons _ t => .cons h t
  | _, _, n + 1, .cons g t => .cons g (RpAll.set h n t)
/-! ### the slots -/
inductive LV
  | dat (d : D)
  | own (ds : List D)
  | raw (v : V)
  | pool
abbrev Rho := List (Option LV)
/-- what may not be part of data: the caller's own lists, and the def's -/
def Mu (μ : Bool) (M0 : Addr → Prop) (σ : L2.St) (ρ : Rho) (p : Addr) : Prop := M0 p ∨ (μ = true ∧ ∃ (i : Nat) (ds : List D), ρ[i]? = some (some (.own ds)) ∧ σ[i]? = some (some (.ref p)))
structure Rs (M0 : Addr → Prop) (H0 H : Hp) (σ : L2.St) (ρ : Rho) : Prop where
  sm : Same H0 H
  dom : Dom M0 H0
  len : ρ.length = σ.length
  dat : ∀ (i : Nat) (d : D), ρ[i]? = some (some (.dat d)) → ∃ v, σ[i]? = some (some v) ∧ Rp (Mu true M0 σ ρ) H v d
  own : ∀ (i : Nat) (ds : List D), ρ[i]? = some (some (.own ds)) → ∃ p vs, σ[i]? = some (some (.ref p)) ∧ H p = some (.lst vs) ∧ H0 p = none ∧ vs.length ≤ sizeLine ∧ RpAll (Mu true M0 σ ρ) H vs ds
  raw : ∀ (i : Nat) (v : V), ρ[i]? = some (some (.raw v)) → σ[i]? = some (some v)
  inj : ∀ (i j : Nat) (a b : List D) (p : Addr), ρ[i]? = some (some (.own a)) → ρ[j]? = some (some (.own b)) → σ[i]? = some (some (.ref p)) → σ[j]? = some (some (.ref p)) → i = j
theorem Rs.mono {M0 : Addr → Prop} {H0 H H' : Hp} {σ : L2.St} {ρ : Rho} (R : Rs M0 H0 H σ ρ) (s : Same H H') : Rs M0 H0 H' σ ρ where
  sm := R.sm.trans s
  dom := R.dom
  len := R.len
  dat := fun i d e => by
    obtain ⟨v, a, b⟩ := R.dat i d e
    exact ⟨v, a, b.mono (.of s)⟩
  own := fun i ds e => by
    obtain ⟨p, vs, a, b, c, l, r⟩ := R.own i ds e
    exact ⟨p, vs, a, s _ _ b, c, l, r.mono (.of s)⟩
  raw := R.raw
  inj := R.inj
theorem Rs.domu {M0 : Addr → Prop} {H0 H : Hp} {σ : L2.St} {ρ : Rho} (R : Rs M0 H0 H σ ρ) (μ : Bool) : Dom (Mu μ M0 σ ρ) H := fun p m e => by
  rcases m with m | ⟨_, i, ds, e1, e2⟩
  · exact R.dom.mono R.sm p m e
  · obtain ⟨q, vs, a, b, _⟩ := R.own i ds e1
    rw [e2] at a
    cases a
    rw [b] at e
    cases e
theorem Mu.up {μ : Bool} {M0 : Addr → Prop} {σ : L2.St} {ρ : Rho} {H : Hp} : ∀ a, Mu μ M0 σ ρ a → Mu true M0 σ ρ a ∨ H a = none := fun a m => .inl (by
  rcases m with m | ⟨_, m⟩
  · exact .inl m
  · exact .inr ⟨rfl, m⟩)
theorem Mu.lo {μ : Bool} {M0 : Addr → Prop} {σ : L2.St} {ρ : Rho} {H : Hp} : ∀ a, M0 a → Mu μ M0 σ ρ a ∨ H a = none := fun a m => .inl (.inl m)
theorem Rp.toMu {μ : Bool} {M0 : Addr → Prop} {σ : L2.St} {ρ : Rho} {H : Hp} {v : V} {d : D} (h : Rp (Mu true M0 σ ρ) H v d) : Rp (Mu μ M0 σ ρ) H v d := h.reM Mu.up
theorem RpAll.toMu {μ : Bool} {M0 : Addr → Prop} {σ : L2.St} {ρ : Rho} {H : Hp} {v : List V} {d : List D} (h : RpAll (Mu true M0 σ ρ) H v d) : RpAll (Mu μ M0 σ ρ) H v d := h.reM Mu.up
theorem some_bind {α β : Type} {o : Option α} {f : α → Option β} {b : β} (h : o.bind f = some b) : ∃ a, o = some a ∧ f a = some b := by
  cases o with
  | none => cases h
  | some a => exact ⟨a, rfl, h⟩
mutual
def nl : D → Bool
  | .tuple ds => nlAll ds
  | .list _ => false
  | .dict _ => false
  | _ => true
def nlAll : List D → Bool
  | [] => true
  | d :: ds => nl d && nlAll ds
end
mutual
theorem Rp.nl {M M' : Addr → Prop} {H : Hp} : ∀ {v : V} {d : D}, Rp M H v d → Dl.nl d = true → (∀ a, M' a → M a ∨ ∃ xs, H a = some (.lst xs)) → Rp M' H v d
  | _, _, .non, _, _ => .non
  | _, _, .bl b, _, _ => .bl b
  | _, _, .int i, _, _ => .int i
  | _, _, .str x h, _, _ => .str x h
  | _, _, .tup ⟨o, e, z⟩ n l h, q, k => .tup ⟨o, e, z⟩ (fun m => (k _ m).elim n (fun ⟨xs, y⟩ => by rw [y] at e; cases e)) l (RpAll.nl h q k)
  | _, _, .lst e n l h, q, k => nomatch q
  | _, _, .dic e n h, q, k => nomatch q
theorem RpAll.nl {M M' : Addr → Prop} {H : Hp} : ∀ {vs : List V} {ds : List D}, RpAll M H vs ds → nlAll ds = true → (∀ a, M' a → M a ∨ ∃ xs, H a = some (.lst xs)) → RpAll M' H vs ds
  | _, _, .nil, _, _ => .nil
  | _, _, .cons h t, q, k => by
    have q2 := Bool.and_eq_true_iff.mp q
    exact .cons (Rp.nl h q2.1 k) (RpAll.nl t q2.2 k)
end
/-! ### readings by data -/
abbrev EF := Rho → Option D
def tD (μ : Bool) (f : EF) : TE := fun σ H Q => ∃ M0 H0 ρ d, Rs M0 H0 H σ ρ ∧ f ρ = some d ∧ ∀ v H', Same H H' → Rp (Mu μ M0 σ ρ) H' v d → Q v H'
def tA (μ : Bool) (f : Rho → Option (List D)) : TA := fun σ H Q => ∃ M0 H0 ρ ds, Rs M0 H0 H σ ρ ∧ f ρ = some ds ∧ ∀ vs H', Same H H' → RpAll (Mu μ M0 σ ρ) H' vs ds → Q vs H'
def tT (f : Rho → Option Bool) : TT := fun σ H Q => ∃ M0 H0 ρ b, Rs M0 H0 H σ ρ ∧ f ρ = some b ∧ ∀ H', Same H H' → Q b H'
inductive Out
  | nx (ρ : Rho)
  | rt (d : D)
  | bk (ρ : Rho)
  | ct (ρ : Rho)
/-- a step: what is nobody's own stands, own lists are old ones or new -/
structure Stp (M0 : Addr → Prop) (σ : L2.St) (ρ : Rho) (H : Hp) (σ' : L2.St) (ρ' : Rho) (H' : Hp) : Prop where
  kp : KpM (Mu true M0 σ ρ) H H'
  ow : ∀ p, Mu true M0 σ' ρ' p → Mu true M0 σ ρ p ∨ H p = none
theorem Stp.refl {M0 : Addr → Prop} {σ : L2.St} {ρ : Rho} {H : Hp} : Stp M0 σ ρ H σ ρ H := ⟨.refl, fun p m => .inl m⟩
theorem Stp.trans {M0 : Addr → Prop} {σ σ1 σ2 : L2.St} {ρ ρ1 ρ2 : Rho} {H H1 H2 : Hp} (a : Stp M0 σ ρ H σ1 ρ1 H1) (b : Stp M0 σ1 ρ1 H1 σ2 ρ2 H2) : Stp M0 σ ρ H σ2 ρ2 H2 where
  kp := fun p o n e => b.kp p o (fun m => (a.ow p m).elim n (fun z => by rw [z] at e; cases e)) (a.kp p o n e)
  ow := fun p m => by
    rcases b.ow p m with m1 | z
    · exact a.ow p m1
    · by_cases h : Mu true M0 σ ρ p
      · exact .inl h
      · cases e : H p with
        | none => exact .inr rfl
        | some o => rw [a.kp p o h e] at z; cases z
def tS (f : Rho → Option Out) : TS := fun Dn σ H => ∃ M0 H0 ρ o, Rs M0 H0 H σ ρ ∧ f ρ = some o ∧ (match o with
  | .nx ρ' => ∀ σ' H', Rs M0 H0 H' σ' ρ' → Stp M0 σ ρ H σ' ρ' H' → Dn.nx σ' H'
  | .rt d => ∀ v H', Same H0 H' → Rp M0 H' v d → Dn.rt v H'
  | .bk ρ' => ∀ σ' H', Rs M0 H0 H' σ' ρ' → Stp M0 σ ρ H σ' ρ' H' → Dn.bk σ' H'
  | .ct ρ' => ∀ σ' H', Rs M0 H0 H' σ' ρ' → Stp M0 σ ρ H σ' ρ' H' → Dn.ct σ' H')
section
variable {X : Cx}
theorem _root_.L2.PE.wk {e : Expr} {t t' : TE} (h : PE X e t) (m : ∀ σ H Q, t' σ H Q → t σ H Q) : PE X e t' := ⟨fun pn s σ H Q I q => h.run pn s σ H Q I (m _ _ _ q)⟩
theorem _root_.L2.PT.wk {e : Expr} {t t' : TT} (h : PT X e t) (m : ∀ σ H Q, t' σ H Q → t σ H Q) : PT X e t' := ⟨fun pn s σ H Q I q => h.run pn s σ H Q I (m _ _ _ q)⟩
theorem _root_.L2.PW.wk {e : Expr} {t t' : TT} (h : PW X e t) (m : ∀ σ H Q, t' σ H Q → t σ H Q) : PW X e t' := ⟨fun wh pn s σ H Q I q => h.run wh pn s σ H Q I (m _ _ _ q)⟩
theorem _root_.L2.PI.wk {tg e : Expr} {t t' : TI} (h : PI X tg e t) (m : ∀ σ H Q, t' σ H Q → t σ H Q) : PI X tg e t' := ⟨fun pn s σ H Q I q => h.run pn s σ H Q I (m _ _ _ q)⟩
theorem _root_.L2.PS.wk {st : Stmt} {t t' : TS} (h : PS X st t) (m : ∀ D σ H, t' D σ H → t D σ H) : PS X st t' := ⟨fun pn s σ H Q I q => h.run pn s σ H Q I (m _ _ _ q)⟩
theorem _root_.L2.PSs.wk {st : List Stmt} {t t' : TS} (h : PSs X st t) (m : ∀ D σ H, t' D σ H → t D σ H) : PSs X st t' := ⟨fun pn s σ H Q I q => h.run pn s σ H Q I (m _ _ _ q)⟩
/-! names and constants -/
def eVar (i : Nat) : EF := fun ρ => match ρ[i]? with | some (some (.dat d)) => some d | _ => none
def eOwn (i : Nat) : EF := fun ρ => match ρ[i]? with | some (some (.own ds)) => some (.list ds) | _ => none
theorem dE_var {e : Expr} {i : Nat} {μ : Bool} (h : PE X e (tVar i)) : PE X e (tD μ (eVar i)) := h.wk fun σ H Q q => by
  obtain ⟨M0, H0, ρ, d, R, e, q⟩ := q
  unfold eVar at e
  split at e
  · rename_i d' z
    cases e
    obtain ⟨v, a, b⟩ := R.dat i _ z
    exact ⟨v, a, q v H (Same.refl _) b.toMu⟩
  · cases e
theorem dE_own {e : Expr} {i : Nat} (h : PE X e (tVar i)) : PE X e (tD false (eOwn i)) := h.wk fun σ H Q q => by
  obtain ⟨M0, H0, ρ, d, R, e, q⟩ := q
  unfold eOwn at e
  split at e
  · rename_i ds z
    cases e
    obtain ⟨p, vs, a, b, c, l, r⟩ := R.own i _ z
    refine ⟨.ref p, a, q _ H (Same.refl _) (.lst b (fun m => ?_) l r.toMu)⟩
    rcases m with m | ⟨m, _⟩
    · exact R.dom p m c
    · cases m
  · cases e
def eC (d : D) : EF := fun _ => some d
def cD : V → Option D
  | .non => some .none
  | .bl b => some (.bool b)
  | .int i => some (.int i)
  | .str x => if x.length ≤ sizeLine then some (.str x) else none
  | _ => none
theorem cD.rp {M : Addr → Prop} {H : Hp} {v : V} {d : D} (h : cD v = some d) : Rp M H v d := by
  cases v with
  | str x =>
    by_cases e : x.length ≤ sizeLine
    · have h : (if x.length ≤ sizeLine then some (PyData.str x) else none) = some d := h
      rw [if_pos e] at h
      cases h
      exact .str x e
    · have h : (if x.length ≤ sizeLine then some (PyData.str x) else none) = some d := h
      rw [if_neg e] at h
      cases h
  | _ => cases h <;> constructor
theorem dE_c {e : Expr} {v : V} {d : D} {μ : Bool} (h : PE X e (tC v)) (hd : cD v = some d := by rfl) : PE X e (tD μ (eC d)) := h.wk fun σ H Q q => by
  obtain ⟨M0, H0, ρ, d', R, e, q⟩ := q
  cases e
  exact q v H (Same.refl _) (cD.rp hd)
/-- a list of one's own may be left out of what is told, where no list is in it -/
def eStr (f : EF) : EF := fun ρ => (f ρ).bind fun d => if nl d = true then some d else none
theorem dE_str {e : Expr} {f : EF} (h : PE X e (tD false f)) : PE X e (tD true (eStr f)) := h.wk fun σ H Q q => by
  obtain ⟨M0, H0, ρ, d, R, e, q⟩ := q
  obtain ⟨d', z, e⟩ := some_bind e
  split at e
  · rename_i hnl
    cases e
    refine ⟨M0, H0, ρ, _, R, z, fun v H' s r => q v H' s (r.nl hnl fun a m => ?_)⟩
    rcases m with m | ⟨_, i, ds, e1, e2⟩
    · exact .inl (.inl m)
    · obtain ⟨p, vs, x, y, _⟩ := (R.mono s).own i ds e1
      rw [e2] at x
      cases x
      exact .inr ⟨_, y⟩
  · cases e
/-! operators -/
def rD (g : D → D → Option D) : R2 := fun x y H Q => ∃ M a b d, Dom M H ∧ Rp M H x a ∧ Rp M H y b ∧ g a b = some d ∧ ∀ v H', Same H H' → Rp M H' v d → Q v H'
def e2 (g : D → D → Option D) (f1 f2 : EF) : EF := fun ρ => (f1 ρ).bind fun a => (f2 ρ).bind fun b => g a b
theorem dOp2 {g : D → D → Option D} {f1 f2 : EF} {μ : Bool} {σ : L2.St} {H : Hp} {Q : VK} (q : tD μ (e2 g f1 f2) σ H Q) : tOp (rD g) (tD μ f1) (tD μ f2) σ H Q := by
  obtain ⟨M0, H0, ρ, d, R, e, q⟩ := q
  obtain ⟨a, ea, e⟩ := some_bind e
  obtain ⟨b, eb, e⟩ := some_bind e
  exact ⟨M0, H0, ρ, a, R, ea, fun x H1 s1 r1 => ⟨M0, H0, ρ, b, R.mono s1, eb, fun y H2 s2 r2 => ⟨_, a, b, d, (R.mono (s1.trans s2)).domu μ, r1.mono (.of s2), r2, e, fun v H3 s3 r3 => q v H3 ((s1.trans s2).trans s3) r3⟩⟩⟩
theorem dE_op {a b : Expr} {op : Operator} {pos : Pos} {g : D → D → Option D} {f1 f2 : EF} {μ : Bool} (o : OpR X (binaryOp op) (rD g)) (ha : PE X a (tD μ f1)) (hb : PE X b (tD μ f2)) : PE X (.BinOp a op b pos) (tD μ (e2 g f1 f2)) := (pe_op o ha hb).wk fun _ _ _ q => dOp2 q
theorem dE_cmp {a b : Expr} {op : CmpOp} {pos : Pos} {g : D → D → Option D} {f1 f2 : EF} {μ : Bool} (o : OpR X (compareOp op) (rD g)) (ha : PE X a (tD μ f1)) (hb : PE X b (tD μ f2)) (hm : behindInMarks op b = false) : PE X (.Compare a [op] [b] pos) (tD μ (e2 g f1 f2)) := (pe_cmpR o ha hb hm).wk fun _ _ _ q => dOp2 q
def bB : D → Option Bool
  | .bool b => some b
  | _ => none
theorem Rp.ofB {M : Addr → Prop} {H : Hp} {v : V} {d : D} {b : Bool} (r : Rp M H v d) (h : bB d = some b) : v = .bl b := by
  cases r <;> cases h
  rfl
def oB (f : EF) : Rho → Option Bool := fun ρ => (f ρ).bind bB
theorem dTest {f : EF} {μ : Bool} {σ : L2.St} {H : Hp} {Q : Bool → Hp → Prop} (q : tT (oB f) σ H Q) : tD μ f σ H (fun x H1 => ∃ c, x = V.bl c ∧ Q c H1) := by
  obtain ⟨M0, H0, ρ, b, R, e, q⟩ := q
  obtain ⟨d, ed, e⟩ := some_bind e
  exact ⟨M0, H0, ρ, d, R, ed, fun v H1 s r => ⟨b, r.ofB e, q _ s⟩⟩
theorem dT_cmp {a b : Expr} {op : CmpOp} {pos : Pos} {g : D → D → Option D} {f1 f2 : EF} {μ : Bool} (o : OpR X (compareOp op) (rD g)) (ha : PE X a (tD μ f1)) (hb : PE X b (tD μ f2)) (hm : behindInMarks op b = false) : PT X (.Compare a [op] [b] pos) (tT (oB (e2 g f1 f2))) := (pt_cmpR o ha hb hm).wk fun σ H Q q => by
  have := dTest (μ := μ) q
  exact dOp2 this
theorem dT_val {e : Expr} {f : EF} {μ : Bool} (h : PE X e (tD μ f)) (ht : ∀ (whole : Sem Value), PySem.isTrue e X.env whole = (do
          let v ← whole
          standAt e.pos
          holding [v] (truthy v)) := by intro _; rfl) : PT X e (tT (oB f)) := (pt_val h ht).wk fun σ H Q q => dTest q
def oNot (f : Rho → Option Bool) : Rho → Option Bool := fun ρ => (f ρ).map (!·)
theorem dT_not {a : Expr} {pos : Pos} {f : Rho → Option Bool} (h : PT X a (tT f)) : PT X (.UnaryOp .Not a pos) (tT (oNot f)) := (pt_not h).wk fun σ H Q q => by
  obtain ⟨M0, H0, ρ, b, R, e, q⟩ := q
  unfold oNot at e
  cases z : f ρ with
  | none => rw [z] at e; cases e
  | some c => rw [z] at e; cases e; exact ⟨M0, H0, ρ, c, R, z, q⟩
def oAnd (f g : Rho → Option Bool) : Rho → Option Bool := fun ρ => (f ρ).bind fun b => if b = true then g ρ else some false
def oOr (f g : Rho → Option Bool) : Rho → Option Bool := fun ρ => (f ρ).bind fun b => if b = true then some true else g ρ
theorem dW_and1 {a : Expr} {pos : Pos} {f : Rho → Option Bool} (h : PT X a (tT f)) : PW X (.BoolOp .And [a] pos) (tT f) := pw_and1 h
theorem dW_or1 {a : Expr} {pos : Pos} {f : Rho → Option Bool} (h : PT X a (tT f)) : PW X (.BoolOp .Or [a] pos) (tT f) := pw_or1 h
theorem dW_and {a b : Expr} {rest : List Expr} {pos : Pos} {f g : Rho → Option Bool} (ha : PT X a (tT f)) (hb : PW X (.BoolOp .And (b :: rest) pos) (tT g)) : PW X (.BoolOp .And (a :: b :: rest) pos) (tT (oAnd f g)) := (pw_and ha hb).wk fun σ H Q q => by
  obtain ⟨M0, H0, ρ, b, R, e, q⟩ := q
  obtain ⟨c, ec, e⟩ := some_bind e
  refine ⟨M0, H0, ρ, c, R, ec, fun H1 s1 => ?_⟩
  cases c with
  | true => exact ⟨M0, H0, ρ, b, R.mono s1, e, fun H2 s2 => q H2 (s1.trans s2)⟩
  | false => cases e; exact q H1 s1
theorem dW_or {a b : Expr} {rest : List Expr} {pos : Pos} {f g : Rho → Option Bool} (ha : PT X a (tT f)) (hb : PW X (.BoolOp .Or (b :: rest) pos) (tT g)) : PW X (.BoolOp .Or (a :: b :: rest) pos) (tT (oOr f g)) := (pw_or ha hb).wk fun σ H Q q => by
  obtain ⟨M0, H0, ρ, b, R, e, q⟩ := q
  obtain ⟨c, ec, e⟩ := some_bind e
  refine ⟨M0, H0, ρ, c, R, ec, fun H1 s1 => ?_⟩
  cases c with
  | true => cases e; exact q H1 s1
  | false => exact ⟨M0, H0, ρ, b, R.mono s1, e, fun H2 s2 => q H2 (s1.trans s2)⟩
/-! and, or, not, if as values -/
def eAnd (f g : EF) : EF := fun ρ => ((f ρ).bind bB).bind fun b => if b = true then g ρ else some (.bool false)
def eOr (f g : EF) : EF := fun ρ => ((f ρ).bind bB).bind fun b => if b = true then some (.bool true) else g ρ
theorem dE_one {a : Expr} {op : BoolOp} {pos : Pos} {f : EF} {μ : Bool} (h : PE X a (tD μ f)) : PE X (.BoolOp op [a] pos) (tD μ f) := pe_one h
theorem dE_and {a b : Expr} {rest : List Expr} {pos : Pos} {f g : EF} {μ : Bool} (ha : PE X a (tD μ f)) (hb : PE X (.BoolOp .And (b :: rest) pos) (tD μ g)) : PE X (.BoolOp .And (a :: b :: rest) pos) (tD μ (eAnd f g)) := (pe_and ha hb).wk fun σ H Q q => by
  obtain ⟨M0, H0, ρ, d, R, e, q⟩ := q
  obtain ⟨c, ec, e⟩ := some_bind e
  obtain ⟨d1, e1, ec⟩ := some_bind ec
  refine ⟨M0, H0, ρ, d1, R, e1, fun v H1 s1 r1 => ⟨c, r1.ofB ec, ?_⟩⟩
  cases c with
  | true => exact ⟨M0, H0, ρ, d, R.mono s1, e, fun v H2 s2 => q v H2 (s1.trans s2)⟩
  | false => cases e; exact q _ H1 s1 (.bl _)
theorem dE_or {a b : Expr} {rest : List Expr} {pos : Pos} {f g : EF} {μ : Bool} (ha : PE X a (tD μ f)) (hb : PE X (.BoolOp .Or (b :: rest) pos) (tD μ g)) : PE X (.BoolOp .Or (a :: b :: rest) pos) (tD μ (eOr f g)) := (pe_or ha hb).wk fun σ H Q q => by
  obtain ⟨M0, H0, ρ, d, R, e, q⟩ := q
  obtain ⟨c, ec, e⟩ := some_bind e
  obtain ⟨d1, e1, ec⟩ := some_bind ec
  refine ⟨M0, H0, ρ, d1, R, e1, fun v H1 s1 r1 => ⟨c, r1.ofB ec, ?_⟩⟩
  cases c with
  | true => cases e; exact q _ H1 s1 (.bl _)
  | false => exact ⟨M0, H0, ρ, d, R.mono s1, e, fun v H2 s2 => q v H2 (s1.trans s2)⟩
def eNot (f : EF) : EF := fun ρ => ((f ρ).bind bB).map fun b => .bool (!b)
theorem dE_not {a : Expr} {pos : Pos} {f : EF} {μ : Bool} (h : PE X a (tD μ f)) : PE X (.UnaryOp .Not a pos) (tD μ (eNot f)) := (pe_not h).wk fun σ H Q q => by
  obtain ⟨M0, H0, ρ, d, R, e, q⟩ := q
  unfold eNot at e
  cases z : (f ρ).bind bB with
  | none => rw [z] at e; cases e
  | some c =>
    rw [z] at e
    cases e
    obtain ⟨d1, e1, ec⟩ := some_bind z
    exact ⟨M0, H0, ρ, d1, R, e1, fun v H1 s1 r1 => ⟨c, r1.ofB ec, q _ _ s1 (.bl _)⟩⟩
/-- truth of data -/
def trD : D → Option Bool
  | .none => some false
  | .bool b => some b
  | .int i => some (i != 0)
  | .tuple ds => some (!ds.isEmpty)
  | .list ds => some (!ds.isEmpty)
  | _ => none
theorem Rp.tru {K : PySem.W.Frag} {M : Addr → Prop} {H : Hp} {v : V} {d : D} {b : Bool} (r : Rp M H v d) (h : trD d = some b) : TruV K v H b := by
  cases r with
  | non => cases h; rfl
  | bl b => cases h; rfl
  | int i => cases h; rfl
  | str x hx => cases h
  | tup t n l a =>
    cases h
    refine .inr (.inl ⟨_, t.sq, ?_⟩)
    cases a <;> rfl
  | lst t n l a =>
    cases h
    refine .inl ⟨_, SqL.of t, ?_⟩
    cases a <;> rfl
  | dic t n => cases h
def eOrT (f g : EF) : EF := fun ρ => (f ρ).bind fun d => (trD d).bind fun b => if b = true then some d else g ρ
theorem dE_orT {a b : Expr} {rest : List Expr} {pos : Pos} {f g : EF} {μ : Bool} (ha : PE X a (tD μ f)) (hb : PE X (.BoolOp .Or (b :: rest) pos) (tD μ g)) : PE X (.BoolOp .Or (a :: b :: rest) pos) (tD μ (eOrT f g)) := (pe_orT ha hb).wk fun σ H Q q => by
  obtain ⟨M0, H0, ρ, d, R, e, q⟩ := q
  obtain ⟨d1, e1, e⟩ := some_bind e
  obtain ⟨c, ec, e⟩ := some_bind e
  refine ⟨M0, H0, ρ, d1, R, e1, fun v H1 s1 r1 => ⟨c, r1.tru ec, ?_⟩⟩
  cases c with
  | true => cases e; exact q _ H1 s1 r1
  | false => exact ⟨M0, H0, ρ, d, R.mono s1, e, fun v H2 s2 => q v H2 (s1.trans s2)⟩
def oTr (f : EF) : Rho → Option Bool := fun ρ => (f ρ).bind trD
theorem dT_truth {e : Expr} {f : EF} {μ : Bool} (h : PE X e (tD μ f)) (ht : ∀ (whole : Sem Value), PySem.isTrue e X.env whole = (do
          let v ← whole
          standAt e.pos
          holding [v] (truthy v)) := by intro _; rfl) : PT X e (tT (oTr f)) := (pt_truth h ht).wk fun σ H Q q => by
  obtain ⟨M0, H0, ρ, b, R, e, q⟩ := q
  obtain ⟨d1, e1, e⟩ := some_bind e
  exact ⟨M0, H0, ρ, d1, R, e1, fun v H1 s1 r1 => ⟨b, r1.tru e, q _ s1⟩⟩
def eIf (c : Rho → Option Bool) (f g : EF) : EF := fun ρ => (c ρ).bind fun b => if b = true then f ρ else g ρ
theorem dE_if {a b c : Expr} {pos : Pos} {t : Rho → Option Bool} {f g : EF} {μ : Bool} (hc : PT X c (tT t)) (ha : PE X a (tD μ f)) (hb : PE X b (tD μ g)) : PE X (c.IfExp a b pos) (tD μ (eIf t f g)) := (pe_ifExp hc ha hb).wk fun σ H Q q => by
  obtain ⟨M0, H0, ρ, d, R, e, q⟩ := q
  obtain ⟨c, ec, e⟩ := some_bind e
  refine ⟨M0, H0, ρ, c, R, ec, fun H1 s1 => ?_⟩
  cases c with
  | true => exact ⟨M0, H0, ρ, d, R.mono s1, e, fun v H2 s2 => q v H2 (s1.trans s2)⟩
  | false => exact ⟨M0, H0, ρ, d, R.mono s1, e, fun v H2 s2 => q v H2 (s1.trans s2)⟩
def eChain (g g' : D → D → Option D) (f1 f2 f3 : EF) : EF := fun ρ => (f1 ρ).bind fun a => (f2 ρ).bind fun b => ((g a b).bind bB).bind fun k => if k = true then (f3 ρ).bind fun c => g' b c else some (.bool false)
theorem dChain {g g' : D → D → Option D} {f1 f2 f3 : EF} {μ : Bool} {σ : L2.St} {H : Hp} {Q : VK} (q : tD μ (eChain g g' f1 f2 f3) σ H Q) : tChain (rD g) (rD g') (tD μ f1) (tD μ f2) (tD μ f3) σ H Q := by
  obtain ⟨M0, H0, ρ, d, R, e, q⟩ := q
  obtain ⟨a, ea, e⟩ := some_bind e
  obtain ⟨b, eb, e⟩ := some_bind e
  obtain ⟨k, ek, e⟩ := some_bind e
  obtain ⟨z, ez, ek⟩ := some_bind ek
  refine ⟨M0, H0, ρ, a, R, ea, fun x H1 s1 r1 => ⟨M0, H0, ρ, b, R.mono s1, eb, fun y H2 s2 r2 => ⟨_, a, b, z, (R.mono (s1.trans s2)).domu μ, r1.mono (.of s2), r2, ez, fun v H3 s3 r3 => ⟨k, r3.ofB ek, ?_⟩⟩⟩⟩
  have s13 := (s1.trans s2).trans s3
  cases k with
  | true =>
    obtain ⟨c, ec, e⟩ := some_bind e
    exact ⟨M0, H0, ρ, c, R.mono s13, ec, fun w H4 s4 r4 => ⟨_, b, c, d, (R.mono (s13.trans s4)).domu μ, r2.mono (.of (s3.trans s4)), r4, e, fun v H5 s5 r5 => q v H5 ((s13.trans s4).trans s5) r5⟩⟩
  | false => cases e; exact q _ _ s13 (.bl _)
theorem dE_chain {a b c : Expr} {op op' : CmpOp} {pos : Pos} {g g' : D → D → Option D} {f1 f2 f3 : EF} {μ : Bool} (o : OpR X (compareOp op) (rD g)) (o' : OpR X (compareOp op') (rD g')) (ha : PE X a (tD μ f1)) (hb : PE X b (tD μ f2)) (hc : PE X c (tD μ f3)) (hm : lastMarks [op, op'] [b, c] = false := by rfl) : PE X (a.Compare [op, op'] [b, c] pos) (tD μ (eChain g g' f1 f2 f3)) := (pe_chain o o' ha hb hc hm).wk fun _ _ _ q => dChain q
theorem dT_chain {a b c : Expr} {op op' : CmpOp} {pos : Pos} {g g' : D → D → Option D} {f1 f2 f3 : EF} {μ : Bool} (o : OpR X (compareOp op) (rD g)) (o' : OpR X (compareOp op') (rD g')) (ha : PE X a (tD μ f1)) (hb : PE X b (tD μ f2)) (hc : PE X c (tD μ f3)) (hm : lastMarks [op, op'] [b, c] = false := by rfl) : PT X (a.Compare [op, op'] [b, c] pos) (tT (oB (eChain g g' f1 f2 f3))) := (pt_chain o o' ha hb hc hm).wk fun _ _ _ q => by
  have := dTest (μ := μ) q
  exact dChain this
end
end Dl
namespace Dl
open PySem PySem.Spec PyProof.Rows L2 Rt
section
variable {X : Cx}
/-- a tuple that was made -/
theorem Inv.tupF {pn : List (Addr × Obj)} {σ : L2.St} {H : Hp} {s : Shared} {us : List Value} {xs : List V} (I : L2.Inv X pn σ H s) (r : Vals xs us) (hz : xs.length ≤ sizeLine) :
    L2.Inv X pn σ (upd H s.heap.objs.size (.frz { cls := .type "tuple", data := .seq us.toArray } (.tup xs))) { s with heap := s.heap.push { cls := .type "tuple", data := .seq us.toArray } } :=
  I.laid (t' := s.toks) (fun b o e => Heap.get?_push_of_some _ e) (Nat.le_refl _) (show ObjOk X.prog X.w _ _ _ (.frz { cls := .type "tuple", data := .seq us.toArray } (.tup xs)) from ⟨Heap.get?_push_size _ rfl, hz, us, r, IsTup.new _ _⟩)
theorem updF {H : Hp} {p : Addr} {xs : List V} {us : List Value} : TupF (upd H p (.frz { cls := .type "tuple", data := .seq us.toArray } (.tup xs))) p xs := ⟨_, upd_same, rfl⟩
/-- (a, b) -/
def tTupF (t : TA) : TE := fun σ H Q => t σ H fun xs H1 => xs.length ≤ sizeLine ∧ ∀ p H', H1 p = none → Same H1 H' → TupF H' p xs → Q (.ref p) H'
theorem pe_tupF {es : List Expr} {t : TA} {x1 : Nat} {pos : Pos} (h : PA X es t) : PE X (.Tuple es x1 pos) (tTupF t) :=
  ⟨fun pn s σ H Q I hq => wpAny_Tuple_spliced (thn (h.run pos pn s σ H _ I hq) fun us s1 ⟨xs, H1, I1, r, z, q⟩ => ⟨by rw [← r.length]; exact z, .ref s1.heap.objs.size, _, Inv.tupF I1 r z, rfl, q _ _ (I1.hok.fresh (Nat.le_refl _)) (smN (I1.hok.fresh (Nat.le_refl _))) updF⟩)⟩
/-- t + u -/
def rCatF : R2 := fun x y H Q => ∃ a b xs ys, x = .ref a ∧ y = .ref b ∧ TupF H a xs ∧ TupF H b ys ∧ xs.length + ys.length ≤ sizeLine ∧ ∀ p H', (H p = none ∨ p = a ∨ p = b) → Same H H' → TupF H' p (xs ++ ys) → Q (.ref p) H'
theorem op_catF : OpR X (binaryOp .Add) rCatF := by
  intro pins s σ H x y v u Q I rx ry h
  obtain ⟨a, b, xs, ys, rfl, rfl, ha, hb, hz, q⟩ := h
  by_cases e1 : xs = []
  · subst e1
    exact op_catA pins s σ H _ _ v u Q I rx ry ⟨a, b, [], ys, rfl, rfl, ha.sq, hb.sq, hz, fun e => q b H (.inr (.inr rfl)) (Same.refl H) hb, fun e _ => (e rfl).elim, fun e _ => (e rfl).elim⟩
  by_cases e2 : ys = []
  · subst e2
    refine op_catA pins s σ H _ _ v u Q I rx ry ⟨a, b, xs, [], rfl, rfl, ha.sq, hb.sq, hz, fun e => (e1 e).elim, fun _ _ => q a H (.inr (.inl rfl)) (Same.refl H) (by rw [List.append_nil]; exact ha), fun _ e => (e rfl).elim⟩
  cases rx
  cases ry
  obtain ⟨its, r1, p1, _⟩ := I.tuple (ha.sq (K := X.K))
  obtain ⟨its2, r2, p2, _⟩ := I.tuple (hb.sq (K := X.K))
  refine HT.cat_tup p1 p2 (fun z => e1 (r1.nil_iff.mp z)) (fun z => (e2 (r2.nil_iff.mp z)).elim) (fun z => ?_) (by rw [← r1.length, ← r2.length]; exact hz)
  have fr := I.hok.fresh (Nat.le_refl s.heap.objs.size)
  exact ⟨.ref s.heap.objs.size, _, Inv.tupF I (r1.append r2) (by rw [List.length_append]; exact hz), rfl, q _ _ (.inl fr) (smN fr) updF⟩
/-- t[lo:hi] -/
def rSlF : V → Option Int → Option Int → Hp → VK → Prop := fun x lo hi H Q => ∃ a xs, x = .ref a ∧ TupF H a xs ∧ ∀ p H', (H p = none ∨ p = a) → Same H H' → TupF H' p (cutV xs lo hi) → Q (.ref p) H'
theorem sl_tupF : SlR X rSlF := by
  intro pins s σ H x v vl vu lo hi sl Q I rx hs pl pu h
  obtain ⟨a, xs, rfl, ha, q⟩ := h
  by_cases hw : HT.sIx xs.length 0 lo = 0 ∧ HT.sIx xs.length xs.length hi = xs.length
  · refine sl_tupA pins s σ H _ v vl vu lo hi sl Q I rx hs pl pu ⟨a, xs, rfl, ha.sq, fun hw => q a H (.inr rfl) (Same.refl H) ?_, fun h => (h hw).elim⟩
    unfold cutV
    rw [hw.1, hw.2, List.drop_zero, Nat.sub_zero, List.take_length]
    exact ha
  cases rx
  obtain ⟨its, r, ht, hz⟩ := I.tuple (ha.sq (K := X.K))
  have hlen : its.toArray.size = xs.length := by rw [List.size_toArray]; exact r.length.symm
  have fr := I.hok.fresh (Nat.le_refl s.heap.objs.size)
  refine ⟨"tuple", "tuple.__getitem__", PyProof.Rows.slot_tuple_getitem.lookup, ht.typeIs, HT.getItem_tuple_cut ht hs pl pu (by rw [hlen]; exact hw) ?_ (by rw [hlen]; exact hz)⟩
  rw [hlen]
  exact ⟨.ref s.heap.objs.size, _, Inv.tupF I ((r.drop _).take _) (Nat.le_trans (cutV_length xs lo hi) hz), rfl, q _ _ (.inl fr) (smN fr) updF⟩
end
end Dl
namespace Dl
open PySem PySem.Spec PyProof.Rows L2 Rt
theorem iteS {α : Type} {c : Prop} [Decidable c] {a b : α} (h : (if c then some a else none) = some b) : c ∧ a = b := by
  by_cases e : c
  · rw [if_pos e] at h; cases h; exact ⟨e, rfl⟩
  · rw [if_neg e] at h; cases h
/-! what operators tell -/
def addD : D → D → Option D
  | .int i, .int j => some (.int (i + j))
  | .tuple a, .tuple b => if a.length + b.length ≤ sizeLine then some (.tuple (a ++ b)) else none
  | .list a, .list b => if a.length + b.length ≤ sizeLine then some (.list (a ++ b)) else none
  | .str a, .str b => if a.length + b.length ≤ sizeLine then some (.str (a ++ b)) else none
  | _, _ => none
def subD : D → D → Option D
  | .int i, .int j => some (.int (i - j))
  | _, _ => none
def mulD : D → D → Option D
  | .int i, .int j => if (-(2 ^ 64) < i ∧ i < 2 ^ 64) ∨ (-(2 ^ 64) < j ∧ j < 2 ^ 64) then some (.int (i * j)) else none
  | _, _ => none
def modD : D → D → Option D
  | .int i, .int j => if 0 < j then some (.int (i % j)) else none
  | _, _ => none
def fdivD : D → D → Option D
  | .int i, .int j => if 0 < j ∧ j < 2 ^ 60 then some (.int (i / j)) else none
  | _, _ => none
def powD : D → D → Option D
  | .int i, .int j => if 0 ≤ j ∧ j ≤ 1000000 ∧ i.natAbs < 2 ^ 64 then some (.int (i ^ j.toNat)) else none
  | _, _ => none
def ltD : D → D → Option D
  | .int i, .int j => some (.bool (decide (i < j)))
  | .str i, .str j => some (.bool (decide (i.cps.toList < j.cps.toList)))
  | _, _ => none
def leD : D → D → Option D
  | .int i, .int j => some (.bool (decide (i ≤ j)))
  | .str i, .str j => some (.bool (!decide (j.cps.toList < i.cps.toList)))
  | _, _ => none
def gtD : D → D → Option D
  | .int i, .int j => some (.bool (decide (i > j)))
  | _, _ => none
def geD : D → D → Option D
  | .int i, .int j => some (.bool (decide (i ≥ j)))
  | .str i, .str j => some (.bool (!decide (i.cps.toList < j.cps.toList)))
  | _, _ => none
/-- it can be compared and shown: no dict in it, not too deep -/
def okD (d : D) : Bool := !d.hasDict && SeqAt.shaped d
def eqD (a b : D) : Option D := if (okD a && okD b) = true then some (.bool (PyData.eqv a b)) else none
def neD (a b : D) : Option D := if (okD a && okD b) = true then some (.bool (!PyData.eqv a b)) else none
def isND : D → D → Option D
  | .none, .none => some (.bool true)
  | _, .none => some (.bool false)
  | _, _ => none
def noND : D → D → Option D
  | .none, .none => some (.bool false)
  | _, .none => some (.bool true)
  | _, _ => none
def inD : D → D → Option D
  | a, .tuple ds => if (okD a && okD (.tuple ds)) = true then some (.bool (ds.any fun z => PyData.eqv z a)) else none
  | a, .list ds => if (okD a && okD (.list ds)) = true then some (.bool (ds.any fun z => PyData.eqv z a)) else none
  | .str i, .str j => match i.cps.toList with
    | [c] => some (.bool (decide (c ∈ j.cps.toList)))
    | _ => none
  | _, _ => none
def ninD : D → D → Option D
  | a, .tuple ds => if (okD a && okD (.tuple ds)) = true then some (.bool (!ds.any fun z => PyData.eqv z a)) else none
  | a, .list ds => if (okD a && okD (.list ds)) = true then some (.bool (!ds.any fun z => PyData.eqv z a)) else none
  | .str i, .str j => match i.cps.toList with
    | [c] => some (.bool (!decide (c ∈ j.cps.toList)))
    | _ => none
  | _, _ => none
theorem one_sign {i : Str} {c : Nat} (h : i.cps.toList = [c]) : i = ⟨#[c]⟩ := by
  cases i with
  | mk a =>
    have h : a.toList = [c] := h
    congr
    rw [← Array.toArray_toList (xs := a), h]
theorem okD.parts {d : D} (h : okD d = true) : d.hasDict = false ∧ SeqAt.shaped d = true := by
  have := Bool.and_eq_true_iff.mp h
  exact ⟨by simpa using this.1, this.2⟩
section
variable {X : Cx}
theorem o_add : OpR X (binaryOp .Add) (rD addD) := by
  intro pn s σ H x y v u Q I rx ry h
  obtain ⟨M, a, b, d, dm, ra, rb, e, q⟩ := h
  cases ra <;> cases rb <;> try (cases e; done)
  · cases e
    exact op_add pn s σ H _ _ v u Q I rx ry ⟨_, _, rfl, rfl, q _ _ (Same.refl _) (.int _)⟩
  · obtain ⟨l, rfl⟩ := iteS e
    exact op_add_str pn s σ H _ _ v u Q I rx ry ⟨_, _, rfl, rfl, l, q _ _ (Same.refl _) (.str _ (by show (Array.size (_ ++ _)) ≤ _; rw [Array.size_append]; exact l))⟩
  · rename_i t1 n1 l1 r1 _ _ _ t2 n2 l2 r2
    obtain ⟨l, rfl⟩ := iteS e
    refine op_catF pn s σ H _ _ v u Q I rx ry ⟨_, _, _, _, rfl, rfl, t1, t2, by rw [r1.len, r2.len]; exact l, fun p H' hp sm t => q _ H' sm (.tup t (fun m => ?_) (by rw [List.length_append, r1.len, r2.len]; exact l) ((r1.mono (.of sm)).app (r2.mono (.of sm))))⟩
    rcases hp with hp | hp | hp
    · exact dm p m hp
    · rw [hp] at m; exact n1 m
    · rw [hp] at m; exact n2 m
  · rename_i t1 n1 l1 r1 _ _ _ t2 n2 l2 r2
    obtain ⟨l, rfl⟩ := iteS e
    exact op_cat pn s σ H _ _ v u Q I rx ry ⟨_, _, _, _, rfl, rfl, t1, t2, by rw [r1.len, r2.len]; exact l, fun p hp => q _ _ (smN hp) (.lst upd_same (fun m => dm p m hp) (by rw [List.length_append, r1.len, r2.len]; exact l) ((r1.mono (.of (smN hp))).app (r2.mono (.of (smN hp)))))⟩
theorem o_sub : OpR X (binaryOp .Sub) (rD subD) := by
  intro pn s σ H x y v u Q I rx ry h
  obtain ⟨M, a, b, d, dm, ra, rb, e, q⟩ := h
  cases ra <;> cases rb <;> try (cases e; done)
  cases e
  exact op_sub pn s σ H _ _ v u Q I rx ry ⟨_, _, rfl, rfl, q _ _ (Same.refl _) (.int _)⟩
theorem o_mul : OpR X (binaryOp .Mult) (rD mulD) := by
  intro pn s σ H x y v u Q I rx ry h
  obtain ⟨M, a, b, d, dm, ra, rb, e, q⟩ := h
  cases ra <;> cases rb <;> try (cases e; done)
  obtain ⟨l, rfl⟩ := iteS e
  exact op_mul pn s σ H _ _ v u Q I rx ry ⟨_, _, rfl, rfl, l, q _ _ (Same.refl _) (.int _)⟩
theorem o_mod : OpR X (binaryOp .Mod) (rD modD) := by
  intro pn s σ H x y v u Q I rx ry h
  obtain ⟨M, a, b, d, dm, ra, rb, e, q⟩ := h
  cases ra <;> cases rb <;> try (cases e; done)
  obtain ⟨l, rfl⟩ := iteS e
  exact op_mod pn s σ H _ _ v u Q I rx ry ⟨_, _, rfl, rfl, l, q _ _ (Same.refl _) (.int _)⟩
theorem o_fdiv : OpR X (binaryOp .FloorDiv) (rD fdivD) := by
  intro pn s σ H x y v u Q I rx ry h
  obtain ⟨M, a, b, d, dm, ra, rb, e, q⟩ := h
  cases ra <;> cases rb <;> try (cases e; done)
  obtain ⟨l, rfl⟩ := iteS e
  exact op_fdivW pn s σ H _ _ v u Q I rx ry ⟨_, _, rfl, rfl, wide_div (b := 60) l.1 (by omega) (by decide) (by decide), q _ _ (Same.refl _) (.int _)⟩
theorem o_pow : OpR X (binaryOp .Pow) (rD powD) := by
  intro pn s σ H x y v u Q I rx ry h
  obtain ⟨M, a, b, d, dm, ra, rb, e, q⟩ := h
  cases ra <;> cases rb <;> try (cases e; done)
  obtain ⟨l, rfl⟩ := iteS e
  exact op_pow pn s σ H _ _ v u Q I rx ry ⟨_, _, rfl, rfl, l, q _ _ (Same.refl _) (.int _)⟩
theorem o_lt : OpR X (compareOp .Lt) (rD ltD) := by
  intro pn s σ H x y v u Q I rx ry h
  obtain ⟨M, a, b, d, dm, ra, rb, e, q⟩ := h
  cases ra <;> cases rb <;> try (cases e; done)
  · cases e
    exact op_lt pn s σ H _ _ v u Q I rx ry ⟨_, _, rfl, rfl, q _ _ (Same.refl _) (.bl _)⟩
  · cases e
    exact op_lt_str pn s σ H _ _ v u Q I rx ry ⟨_, _, rfl, rfl, q _ _ (Same.refl _) (.bl _)⟩
theorem o_le : OpR X (compareOp .LtE) (rD leD) := by
  intro pn s σ H x y v u Q I rx ry h
  obtain ⟨M, a, b, d, dm, ra, rb, e, q⟩ := h
  cases ra <;> cases rb <;> try (cases e; done)
  · cases e
    exact op_le pn s σ H _ _ v u Q I rx ry ⟨_, _, rfl, rfl, q _ _ (Same.refl _) (.bl _)⟩
  · cases e
    exact op_le_str pn s σ H _ _ v u Q I rx ry ⟨_, _, rfl, rfl, q _ _ (Same.refl _) (.bl _)⟩
theorem o_gt : OpR X (compareOp .Gt) (rD gtD) := by
  intro pn s σ H x y v u Q I rx ry h
  obtain ⟨M, a, b, d, dm, ra, rb, e, q⟩ := h
  cases ra <;> cases rb <;> try (cases e; done)
  cases e
  exact op_gt pn s σ H _ _ v u Q I rx ry ⟨_, _, rfl, rfl, q _ _ (Same.refl _) (.bl _)⟩
theorem o_ge : OpR X (compareOp .GtE) (rD geD) := by
  intro pn s σ H x y v u Q I rx ry h
  obtain ⟨M, a, b, d, dm, ra, rb, e, q⟩ := h
  cases ra <;> cases rb <;> try (cases e; done)
  · cases e
    exact op_ge pn s σ H _ _ v u Q I rx ry ⟨_, _, rfl, rfl, q _ _ (Same.refl _) (.bl _)⟩
  · cases e
    exact op_ge_str pn s σ H _ _ v u Q I rx ry ⟨_, _, rfl, rfl, q _ _ (Same.refl _) (.bl _)⟩
theorem o_eq (hu : X.A.units + 64 < cLine) : OpR X (compareOp .Eq) (rD eqD) := by
  intro pn s σ H x y v u Q I rx ry h
  obtain ⟨M, a, b, d, dm, ra, rb, e, q⟩ := h
  obtain ⟨l, rfl⟩ := iteS e
  have l := Bool.and_eq_true_iff.mp l
  exact op_eqD hu pn s σ H _ _ v u Q I rx ry ⟨a, b, ra.dp (okD.parts l.1).1, rb.dp (okD.parts l.2).1, (okD.parts l.1).2, (okD.parts l.2).2, q _ _ (Same.refl _) (.bl _)⟩
theorem o_ne (hu : X.A.units + 64 < cLine) : OpR X (compareOp .NotEq) (rD neD) := by
  intro pn s σ H x y v u Q I rx ry h
  obtain ⟨M, a, b, d, dm, ra, rb, e, q⟩ := h
  obtain ⟨l, rfl⟩ := iteS e
  have l := Bool.and_eq_true_iff.mp l
  exact op_neD hu pn s σ H _ _ v u Q I rx ry ⟨a, b, ra.dp (okD.parts l.1).1, rb.dp (okD.parts l.2).1, (okD.parts l.1).2, (okD.parts l.2).2, q _ _ (Same.refl _) (.bl _)⟩
theorem o_is : OpR X (compareOp .Is) (rD isND) := by
  intro pn s σ H x y v u Q I rx ry h
  obtain ⟨M, a, b, d, dm, ra, rb, e, q⟩ := h
  cases rb <;> (try (cases ra <;> cases e; done))
  refine op_isN pn s σ H _ _ v u Q I rx ry ⟨rfl, ?_⟩
  cases ra <;> cases e <;> exact q _ _ (Same.refl _) (.bl _)
theorem o_isnot : OpR X (compareOp .IsNot) (rD noND) := by
  intro pn s σ H x y v u Q I rx ry h
  obtain ⟨M, a, b, d, dm, ra, rb, e, q⟩ := h
  cases rb <;> (try (cases ra <;> cases e; done))
  refine op_notN pn s σ H _ _ v u Q I rx ry ⟨rfl, ?_⟩
  cases ra <;> cases e <;> exact q _ _ (Same.refl _) (.bl _)
theorem o_in (hu : X.A.units + 65 < cLine) : OpR X (compareOp .In) (rD inD) := by
  intro pn s σ H x y v u Q I rx ry h
  obtain ⟨M, a, b, d, dm, ra, rb, e, q⟩ := h
  cases rb <;> (try (cases ra <;> cases e; done))
  · cases ra <;> try (cases e; done)
    rename_i i hi
    simp only [inD] at e
    split at e
    · rename_i c hc
      cases e
      exact op_in_sign pn s σ H _ _ v u Q I rx ry ⟨c, _, by rw [one_sign hc], rfl, q _ _ (Same.refl _) (.bl _)⟩
    · cases e
  · rename_i xs ds t n l r
    obtain ⟨l2, rfl⟩ := iteS (show (if (okD a && okD (.tuple ds)) = true then some (PyData.bool (ds.any fun z => PyData.eqv z a)) else none) = some d by cases a <;> exact e)
    have l2 := Bool.and_eq_true_iff.mp l2
    have rb : Rp M H (.ref _) (.tuple ds) := .tup t n l r
    obtain ⟨as, r1⟩ := Dp.reads I _ _ v (ra.dp (okD.parts l2.1).1) rx
    obtain ⟨bs, r2⟩ := Dp.reads I _ _ u (rb.dp (okD.parts l2.2).1) ry
    exact SeqAt.in_tuple_reads r2 r1 (SeqAt.canLay_of_shaped (okD.parts l2.2).2) (SeqAt.canLay_of_shaped (okD.parts l2.1).2) (room_in_shaped (okD.parts l2.1).2 hu) ⟨.bl _, H, I, rfl, q _ _ (Same.refl _) (.bl _)⟩
  · rename_i xs ds t n l r
    obtain ⟨l2, rfl⟩ := iteS (show (if (okD a && okD (.list ds)) = true then some (PyData.bool (ds.any fun z => PyData.eqv z a)) else none) = some d by cases a <;> exact e)
    have l2 := Bool.and_eq_true_iff.mp l2
    have rb : Rp M H (.ref _) (.list ds) := .lst t n l r
    exact op_inD hu pn s σ H _ _ v u Q I rx ry ⟨a, ds, ra.dp (okD.parts l2.1).1, rb.dp (okD.parts l2.2).1, (okD.parts l2.1).2, (okD.parts l2.2).2, q _ _ (Same.refl _) (.bl _)⟩
theorem o_nin (hu : X.A.units + 65 < cLine) : OpR X (compareOp .NotIn) (rD ninD) := by
  intro pn s σ H x y v u Q I rx ry h
  obtain ⟨M, a, b, d, dm, ra, rb, e, q⟩ := h
  cases rb <;> (try (cases ra <;> cases e; done))
  · cases ra <;> try (cases e; done)
    rename_i i hi
    simp only [ninD] at e
    split at e
    · rename_i c hc
      cases e
      exact op_notIn_sign pn s σ H _ _ v u Q I rx ry ⟨c, _, by rw [one_sign hc], rfl, q _ _ (Same.refl _) (.bl _)⟩
    · cases e
  · rename_i xs ds t n l r
    obtain ⟨l2, rfl⟩ := iteS (show (if (okD a && okD (.tuple ds)) = true then some (PyData.bool (!ds.any fun z => PyData.eqv z a)) else none) = some d by cases a <;> exact e)
    have l2 := Bool.and_eq_true_iff.mp l2
    have rb : Rp M H (.ref _) (.tuple ds) := .tup t n l r
    obtain ⟨as, r1⟩ := Dp.reads I _ _ v (ra.dp (okD.parts l2.1).1) rx
    obtain ⟨bs, r2⟩ := Dp.reads I _ _ u (rb.dp (okD.parts l2.2).1) ry
    exact SeqAt.notIn_tuple_reads r2 r1 (SeqAt.canLay_of_shaped (okD.parts l2.2).2) (SeqAt.canLay_of_shaped (okD.parts l2.1).2) (room_in_shaped (okD.parts l2.1).2 hu) ⟨.bl _, H, I, rfl, q _ _ (Same.refl _) (.bl _)⟩
  · rename_i xs ds t n l r
    obtain ⟨l2, rfl⟩ := iteS (show (if (okD a && okD (.list ds)) = true then some (PyData.bool (!ds.any fun z => PyData.eqv z a)) else none) = some d by cases a <;> exact e)
    have l2 := Bool.and_eq_true_iff.mp l2
    have rb : Rp M H (.ref _) (.list ds) := .lst t n l r
    exact op_notInD hu pn s σ H _ _ v u Q I rx ry ⟨a, ds, ra.dp (okD.parts l2.1).1, rb.dp (okD.parts l2.2).1, (okD.parts l2.1).2, (okD.parts l2.2).2, q _ _ (Same.refl _) (.bl _)⟩
def negD : D → Option D
  | .int i => some (.int (-i))
  | _ => none
def e1 (g : D → Option D) (f : EF) : EF := fun ρ => (f ρ).bind g
theorem dE_neg {a : Expr} {pos : Pos} {f : EF} {μ : Bool} (h : PE X a (tD μ f)) : PE X (.UnaryOp .USub a pos) (tD μ (e1 negD f)) := (pe_un un_neg h).wk fun σ H Q q => by
  obtain ⟨M0, H0, ρ, d, R, e, q⟩ := q
  obtain ⟨d1, e1, e⟩ := some_bind e
  refine ⟨M0, H0, ρ, d1, R, e1, fun v H1 s1 r1 => ?_⟩
  cases r1 <;> cases e
  exact ⟨_, rfl, q _ _ s1 (.int _)⟩
/-! arguments, displays, subscripts, slices -/
def aNil : Rho → Option (List D) := fun _ => some []
def aCons (f : EF) (g : Rho → Option (List D)) : Rho → Option (List D) := fun ρ => (f ρ).bind fun d => (g ρ).map fun ds => d :: ds
theorem dA_nil {μ : Bool} : PA X [] (tA μ aNil) := PA.weak pa_nil fun σ H Q q => by
  obtain ⟨M0, H0, ρ, ds, R, e, q⟩ := q
  cases e
  exact ⟨Q, q [] H (Same.refl _) .nil, fun _ _ z => z⟩
theorem dA_cons {e : Expr} {es : List Expr} {f : EF} {g : Rho → Option (List D)} {μ : Bool} (h : PE X e (tD μ f)) (hs : PA X es (tA μ g)) (he : starEach (e :: es) X.env = (false, eval e X.env) :: starEach es X.env := by rfl) : PA X (e :: es) (tA μ (aCons f g)) := PA.weak (pa_cons h hs he) fun σ H Q q => by
  obtain ⟨M0, H0, ρ, ds, R, e, q⟩ := q
  obtain ⟨d, ed, e⟩ := some_bind e
  cases z : g ρ with
  | none => rw [z] at e; cases e
  | some r =>
    rw [z] at e
    cases e
    exact ⟨Q, ⟨M0, H0, ρ, d, R, ed, fun v H1 s1 r1 => ⟨M0, H0, ρ, r, R.mono s1, z, fun vs H2 s2 r2 => q _ H2 (s1.trans s2) (.cons (r1.mono (.of s2)) r2)⟩⟩, fun _ _ z => z⟩
def eTup (g : Rho → Option (List D)) : EF := fun ρ => (g ρ).bind fun ds => if ds.length ≤ sizeLine then some (.tuple ds) else none
def eLst (g : Rho → Option (List D)) : EF := fun ρ => (g ρ).bind fun ds => if ds.length ≤ sizeLine then some (.list ds) else none
theorem dE_tup {es : List Expr} {x1 : Nat} {pos : Pos} {g : Rho → Option (List D)} {μ : Bool} (h : PA X es (tA μ g)) : PE X (.Tuple es x1 pos) (tD μ (eTup g)) := (pe_tupF h).wk fun σ H Q q => by
  obtain ⟨M0, H0, ρ, d, R, e, q⟩ := q
  obtain ⟨ds, ed, e⟩ := some_bind e
  obtain ⟨l, rfl⟩ := iteS e
  exact ⟨M0, H0, ρ, ds, R, ed, fun vs H1 s1 r1 => ⟨by rw [r1.len]; exact l, fun p H2 np s2 t => q _ H2 (s1.trans s2) (.tup t ((R.mono s1).domu μ |>.not np) (by rw [r1.len]; exact l) (r1.mono (.of s2)))⟩⟩
theorem dE_lst {es : List Expr} {pos : Pos} {g : Rho → Option (List D)} {μ : Bool} (h : PA X es (tA μ g)) : PE X (.List es pos) (tD μ (eLst g)) := (pe_lst h).wk fun σ H Q q => by
  obtain ⟨M0, H0, ρ, d, R, e, q⟩ := q
  obtain ⟨ds, ed, e⟩ := some_bind e
  obtain ⟨l, rfl⟩ := iteS e
  exact ⟨M0, H0, ρ, ds, R, ed, fun vs H1 s1 r1 => ⟨by rw [r1.len]; exact l, fun p np => q _ _ (s1.trans (smN np)) (.lst upd_same ((R.mono s1).domu μ |>.not np) (by rw [r1.len]; exact l) (r1.mono (.of (smN np))))⟩⟩
def ixD : D → D → Option D
  | .tuple ds, .int i => atI ds i
  | .list ds, .int i => atI ds i
  | _, _ => none
theorem RpAll.atI {M : Addr → Prop} {H : Hp} {vs : List V} {ds : List D} {i : Int} {d : D} (h : RpAll M H vs ds) (e : L2.atI ds i = some d) : ∃ v, L2.atI vs i = some v ∧ Rp M H v d := by
  unfold L2.atI at e ⊢
  rw [h.len]
  obtain ⟨j, ej, e⟩ := some_bind e
  obtain ⟨v, a, b⟩ := h.get e
  exact ⟨v, by rw [ej]; exact a, b⟩
theorem i_ix : IxR X (rD ixD) := by
  intro ve sl pn s σ H x y v u Q I rx ry h hs
  obtain ⟨M, a, b, d, dm, ra, rb, e, q⟩ := h
  cases ra <;> cases rb <;> try (cases e; done)
  · rename_i t n l r i
    obtain ⟨w, ew, rw⟩ := r.atI (show L2.atI _ _ = some d from e)
    exact ix_tup ve sl pn s σ H _ _ v u Q I rx ry ⟨_, _, i, w, rfl, rfl, t.sq, ew, q w H (Same.refl _) rw⟩ hs
  · rename_i t n l r i
    obtain ⟨w, ew, rw⟩ := r.atI (show L2.atI _ _ = some d from e)
    exact ix_list ve sl pn s σ H _ _ v u Q I rx ry ⟨_, _, i, w, rfl, rfl, SqL.of t, ew, q w H (Same.refl _) rw⟩ hs
theorem dE_ix {a b : Expr} {pos : Pos} {f1 f2 : EF} {μ : Bool} (ha : PE X a (tD μ f1)) (hb : PE X b (tD μ f2)) (hp : PlainIx b := by exact fun _ _ => rfl) : PE X (.Subscript a b pos) (tD μ (e2 ixD f1 f2)) := (pe_ix i_ix ha hb hp).wk fun _ _ _ q => dOp2 q
/-- slices -/
def cutD {α : Type} (xs : List α) (lo hi : Option Int) : List α := (xs.drop (HT.sIx xs.length 0 lo)).take (HT.sIx xs.length xs.length hi - HT.sIx xs.length 0 lo)
def slD : D → Option Int → Option Int → Option D
  | .tuple ds, lo, hi => some (.tuple (cutD ds lo hi))
  | .list ds, lo, hi => some (.list (cutD ds lo hi))
  | _, _, _ => none
theorem RpAll.cut {M : Addr → Prop} {H : Hp} {vs : List V} {ds : List D} (h : RpAll M H vs ds) (lo hi : Option Int) : RpAll M H (cutV vs lo hi) (cutD ds lo hi) := by
  unfold cutV cutD
  rw [h.len]
  exact (h.drop _).take _
def rSlD : V → Option Int → Option Int → Hp → VK → Prop := fun x lo hi H Q => ∃ M a d, Dom M H ∧ Rp M H x a ∧ slD a lo hi = some d ∧ ∀ v H', Same H H' → Rp M H' v d → Q v H'
theorem s_sl : SlR X rSlD := by
  intro pn s σ H x v vl vu lo hi sl Q I rx hs pl pu h
  obtain ⟨M, a, d, dm, ra, e, q⟩ := h
  cases ra <;> try (cases e; done)
  · rename_i a t n l r
    cases e
    refine sl_tupF pn s σ H _ v vl vu lo hi sl Q I rx hs pl pu ⟨_, _, rfl, t, fun p H' hp sm t' => q _ H' sm (.tup t' (fun m => ?_) (Nat.le_trans (cutV_length _ _ _) l) ((r.mono (.of sm)).cut _ _))⟩
    rcases hp with hp | hp
    · exact dm p m hp
    · rw [hp] at m; exact n m
  · rename_i a t n l r
    cases e
    exact sl_list pn s σ H _ v vl vu lo hi sl Q I rx hs pl pu ⟨_, _, rfl, SqL.of t, fun p hp => q _ _ (smN hp) (.lst upd_same (fun m => dm p m hp) (Nat.le_trans (cutV_length _ _ _) l) ((r.mono (.of (smN hp))).cut _ _))⟩
def tPo (f : Rho → Option (Option Int)) : TO := fun σ H Q => ∃ M0 H0 ρ o, Rs M0 H0 H σ ρ ∧ f ρ = some o ∧ ∀ H', Same H H' → Q o H'
def pNone : Rho → Option (Option Int) := fun _ => some none
def pSome (f : EF) : Rho → Option (Option Int) := fun ρ => (f ρ).bind fun d => match d with | .int i => some (some i) | _ => none
theorem _root_.L2.PO.wk {e : Option Expr} {t t' : TO} (h : PO X e t) (m : ∀ σ H Q, t' σ H Q → t σ H Q) : PO X e t' := ⟨fun pn s σ H Q I q => h.run pn s σ H Q I (m _ _ _ q)⟩
theorem dO_none : PO X none (tPo pNone) := po_none.wk fun σ H Q q => by
  obtain ⟨M0, H0, ρ, o, R, e, q⟩ := q
  cases e
  exact q _ (Same.refl _)
theorem dO_some {e : Expr} {f : EF} {μ : Bool} (h : PE X e (tD μ f)) : PO X (some e) (tPo (pSome f)) := (po_some h).wk fun σ H Q q => by
  obtain ⟨M0, H0, ρ, o, R, e, q⟩ := q
  obtain ⟨d, ed, e⟩ := some_bind e
  refine ⟨M0, H0, ρ, d, R, ed, fun v H1 s1 r1 => ?_⟩
  cases r1 <;> cases e
  exact ⟨_, rfl, q _ s1⟩
def eSl (f : EF) (lo hi : Rho → Option (Option Int)) : EF := fun ρ => (f ρ).bind fun d => (lo ρ).bind fun l => (hi ρ).bind fun h => slD d l h
theorem dE_sl {e : Expr} {lo hi : Option Expr} {pos p2 : Pos} {f : EF} {g h : Rho → Option (Option Int)} {μ : Bool} (he : PE X e (tD μ f)) (hl : PO X lo (tPo g)) (hh : PO X hi (tPo h)) : PE X (.Subscript e (.Slice lo hi none p2) pos) (tD μ (eSl f g h)) := (pe_slice s_sl he hl hh).wk fun σ H Q q => by
  obtain ⟨M0, H0, ρ, d, R, e, q⟩ := q
  obtain ⟨d1, e1, e⟩ := some_bind e
  obtain ⟨l, el, e⟩ := some_bind e
  obtain ⟨u, eu, e⟩ := some_bind e
  exact ⟨M0, H0, ρ, d1, R, e1, fun v H1 s1 r1 => ⟨M0, H0, ρ, l, R.mono s1, el, fun H2 s2 => ⟨M0, H0, ρ, u, R.mono (s1.trans s2), eu, fun H3 s3 => ⟨_, d1, d, (R.mono ((s1.trans s2).trans s3)).domu μ, r1.mono (.of (s2.trans s3)), e, fun v H4 s4 r4 => q v H4 (((s1.trans s2).trans s3).trans s4) r4⟩⟩⟩⟩
/-! calls -/
def rC (g : List D → Option D) : List V → Hp → VK → Prop := fun xs H Q => ∃ M ds d, Dom M H ∧ RpAll M H xs ds ∧ g ds = some d ∧ ∀ v H', Same H H' → Rp M H' v d → Q v H'
def eCall (g : List D → Option D) (f : Rho → Option (List D)) : EF := fun ρ => (f ρ).bind g
theorem dCall {g : List D → Option D} {f : Rho → Option (List D)} {μ : Bool} {σ : L2.St} {H : Hp} {Q : VK} (q : tD μ (eCall g f) σ H Q) : tCB (rC g) (tA μ f) σ H Q := by
  obtain ⟨M0, H0, ρ, d, R, e, q⟩ := q
  obtain ⟨ds, ed, e⟩ := some_bind e
  exact ⟨M0, H0, ρ, ds, R, ed, fun vs H1 s1 r1 => ⟨_, ds, d, (R.mono s1).domu μ, r1, e, fun v H2 s2 r2 => q v H2 (s1.trans s2) r2⟩⟩
def spD (n : Nat) (g : List D → Option D) : Sp := fun vs H Q _ => ∃ M ds d, Dom M H ∧ RpAll M H vs ds ∧ ds.length = n ∧ g ds = some d ∧ ∀ v H', Same H H' → Rp M H' v d → Q v H'
def gN (n : Nat) (g : List D → Option D) : List D → Option D := fun ds => if ds.length = n then g ds else none
theorem dE_cl {k n : Nat} {x : Str} {ps : List Str} {g : List D → Option D} {p pos : Pos} {e : Expr} {es : List Expr} {f : Rho → Option (List D)} {μ : Bool} (C : Cl X.prog X.w X.K X.mg X.base k x ps (spD n g)) (hr : Room k X.A) (hg : Gl X x) (ha : PA X (e :: es) (tA μ f))
    (hdb : (x == ("__debug__" : Str)) = false := by decide) (he : starEach (e :: es) X.env = (false, eval e X.env) :: starEach es X.env := by rfl) (hpl : (backTo pos (starEach es X.env)).any (·.1) = false := by rfl) :
    PE X (.Call (.Name x p) (e :: es) [] pos) (tD μ (eCall (gN n g) f)) := (pe_cl C hr hg ha hdb he hpl).wk fun σ H Q q => by
  obtain ⟨M0, H0, ρ, d, R, e, q⟩ := q
  obtain ⟨ds, ed, e⟩ := some_bind e
  refine ⟨M0, H0, ρ, ds, R, ed, fun vs H1 s1 r1 => ?_⟩
  unfold gN at e
  split at e
  · rename_i l
    rw [List.append_nil]
    exact ⟨_, ds, d, (R.mono s1).domu μ, r1, l, e, fun v H2 s2 r2 => q v H2 (s1.trans s2) r2⟩
  · cases e
end
end Dl
namespace Dl
open PySem PySem.Spec PyProof.Rows L2 Rt
/-! ### targets -/
mutual
inductive Pat
  | nm (i : Nat)
  | tp (ps : Pats)
inductive Pats
  | nil
  | cons (p : Pat) (ps : Pats)
end
def Pats.len : Pats → Nat
  | .nil => 0
  | .cons _ ps => ps.len + 1
mutual
def gP (K : PySem.W.Frag) : Pat → TG
  | .nm i => gName i
  | .tp ps => gTup K ps.len (gPs K ps)
def gPs (K : PySem.W.Frag) : Pats → TGs
  | .nil => gNil
  | .cons p ps => gCons (gP K p) (gPs K ps)
end
mutual
def bindP : Pat → D → Rho → Option Rho
  | .nm i, d, ρ => if i < ρ.length then some (ρ.set i (some (.dat d))) else none
  | .tp ps, .tuple ds, ρ => bindPs ps ds ρ
  | .tp _, _, _ => none
def bindPs : Pats → List D → Rho → Option Rho
  | .nil, [], ρ => some ρ
  | .cons p ps, d :: ds, ρ => (bindP p d ρ).bind fun ρ1 => bindPs ps ds ρ1
  | _, _, _ => none
end
mutual
def slP : Pat → List Nat
  | .nm i => [i]
  | .tp ps => slPs ps
def slPs : Pats → List Nat
  | .nil => []
  | .cons p ps => slP p ++ slPs ps
end
theorem set_get {α : Type} {xs : List α} {i j : Nat} {x y : α} (h : (xs.set i x)[j]? = some y) : (i = j ∧ y = x) ∨ (i ≠ j ∧ xs[j]? = some y) := by
  rw [List.getElem?_set] at h
  by_cases e : i = j
  · rw [if_pos e] at h
    split at h
    · cases h; exact .inl ⟨e, rfl⟩
    · cases h
  · rw [if_neg e] at h; exact .inr ⟨e, h⟩
theorem set_same {α : Type} {xs : List α} {i : Nat} {x : α} (h : i < xs.length) : (xs.set i x)[i]? = some x := by
  rw [List.getElem?_set, if_pos rfl, if_pos h]
theorem set_other {α : Type} {xs : List α} {i j : Nat} {x : α} (h : i ≠ j) : (xs.set i x)[j]? = xs[j]? := by
  rw [List.getElem?_set, if_neg h]
theorem Mu.shrink {M0 : Addr → Prop} {σ : L2.St} {ρ : Rho} {i : Nat} {w : Option V} {lv : Option LV} (h : ∀ ds, lv ≠ some (.own ds)) : ∀ a, Mu true M0 (σ.set i w) (ρ.set i lv) a → Mu true M0 σ ρ a := fun a m => by
  rcases m with m | ⟨_, j, ds, e1, e2⟩
  · exact .inl m
  · rcases set_get e1 with ⟨_, e⟩ | ⟨n, e⟩
    · exact (h ds e.symm).elim
    · rw [set_other n] at e2
      exact .inr ⟨rfl, j, ds, e, e2⟩
theorem Rs.set {M0 : Addr → Prop} {H0 H : Hp} {σ : L2.St} {ρ : Rho} {i : Nat} {v : V} {d : D} (R : Rs M0 H0 H σ ρ) (r : Rp (Mu true M0 σ ρ) H v d) : Rs M0 H0 H (σ.set i (some v)) (ρ.set i (some (.dat d))) := by
  have sh : ∀ a, Mu true M0 (σ.set i (some v)) (ρ.set i (some (.dat d))) a → Mu true M0 σ ρ a ∨ H a = none := fun a m => .inl (Mu.shrink (fun ds e => by cases e) a m)
  refine ⟨R.sm, R.dom, by rw [List.length_set, List.length_set]; exact R.len, fun j d' e => ?_, fun j ds e => ?_, fun j w e => ?_, fun j k a b p e1 e2 e3 e4 => ?_⟩
  · rcases set_get e with ⟨rfl, e9⟩ | ⟨n, e⟩
    · cases e9
      have hl : i < ρ.length := by
        have := (List.getElem?_eq_some_iff.mp (by assumption : (ρ.set i _)[i]? = _)).1
        rwa [List.length_set] at this
      exact ⟨v, set_same (by rw [← R.len]; exact hl), r.reM sh⟩
    · obtain ⟨w, x, y⟩ := R.dat j d' e
      exact ⟨w, by rw [set_other n]; exact x, y.reM sh⟩
  · rcases set_get e with ⟨rfl, e9⟩ | ⟨n, e⟩
    · cases e9
    · obtain ⟨p, vs, x, y, z, l, w⟩ := R.own j ds e
      exact ⟨p, vs, by rw [set_other n]; exact x, y, z, l, w.reM sh⟩
  · rcases set_get e with ⟨rfl, e9⟩ | ⟨n, e⟩
    · cases e9
    · rw [set_other n]; exact R.raw j w e
  · rcases set_get e1 with ⟨rfl, e⟩ | ⟨n1, f1⟩
    · cases e
    rcases set_get e2 with ⟨rfl, e⟩ | ⟨n2, f2⟩
    · cases e
    rw [set_other n1] at e3
    rw [set_other n2] at e4
    exact R.inj j k a b p f1 f2 e3 e4
theorem Rs.clear {M0 : Addr → Prop} {H0 H : Hp} {σ : L2.St} {ρ : Rho} (i : Nat) (w : Option V) (R : Rs M0 H0 H σ ρ) : Rs M0 H0 H (σ.set i w) (ρ.set i none) := by
  have sh : ∀ a, Mu true M0 (σ.set i w) (ρ.set i none) a → Mu true M0 σ ρ a ∨ H a = none := fun a m => .inl (Mu.shrink (fun ds e => by cases e) a m)
  refine ⟨R.sm, R.dom, by rw [List.length_set, List.length_set]; exact R.len, fun j d' e => ?_, fun j ds e => ?_, fun j w e => ?_, fun j k a b p e1 e2 e3 e4 => ?_⟩
  · rcases set_get e with ⟨rfl, e9⟩ | ⟨n, e⟩
    · cases e9
    · obtain ⟨w, x, y⟩ := R.dat j d' e
      exact ⟨w, by rw [set_other n]; exact x, y.reM sh⟩
  · rcases set_get e with ⟨rfl, e9⟩ | ⟨n, e⟩
    · cases e9
    · obtain ⟨p, vs, x, y, z, l, w⟩ := R.own j ds e
      exact ⟨p, vs, by rw [set_other n]; exact x, y, z, l, w.reM sh⟩
  · rcases set_get e with ⟨rfl, e9⟩ | ⟨n, e⟩
    · cases e9
    · rw [set_other n]; exact R.raw j w e
  · rcases set_get e1 with ⟨rfl, e⟩ | ⟨n1, f1⟩
    · cases e
    rcases set_get e2 with ⟨rfl, e⟩ | ⟨n2, f2⟩
    · cases e
    rw [set_other n1] at e3
    rw [set_other n2] at e4
    exact R.inj j k a b p f1 f2 e3 e4
/-- an item of a walk: data, or a pair just made of data -/
def RpI (pr : Bool) (M : Addr → Prop) (H : Hp) (v : V) (d : D) : Prop := Rp M H v d ∨ (pr = true ∧ ∃ a xs ds, v = .ref a ∧ d = .tuple ds ∧ H a = some (.tup xs) ∧ RpAll M H xs ds)
def Pat.fits (pr : Bool) : Pat → Bool
  | .nm _ => !pr
  | .tp _ => true
structure Bnd (M0 : Addr → Prop) (σ : L2.St) (ρ : Rho) (sl : List Nat) (σ' : L2.St) (ρ' : Rho) : Prop where
  oth : ∀ j, j ∉ sl → σ'[j]? = σ[j]?
  len : σ'.length = σ.length
  mu : ∀ a, Mu true M0 σ' ρ' a → Mu true M0 σ ρ a
mutual
theorem bindP.ok {K : PySem.W.Frag} {M0 : Addr → Prop} {H0 H : Hp} : ∀ {p : Pat} {σ : L2.St} {ρ ρ' : Rho} {v : V} {d : D} {Q : L2.St → Hp → Prop} {pr : Bool}, Rs M0 H0 H σ ρ → RpI pr (Mu true M0 σ ρ) H v d → p.fits pr = true → bindP p d ρ = some ρ' →
    (∀ σ', Rs M0 H0 H σ' ρ' → Bnd M0 σ ρ (slP p) σ' ρ' → Q σ' H) → gP K p v σ H Q
  | .nm i, σ, ρ, ρ', v, d, Q, pr, R, r, ft, e, q => by
    have hpr : pr = false := by cases pr <;> first | rfl | cases ft
    subst hpr
    have r : Rp (Mu true M0 σ ρ) H v d := by
      rcases r with r | ⟨z, _⟩
      · exact r
      · cases z
    unfold bindP at e
    obtain ⟨l, rfl⟩ := iteS e
    refine q _ (R.set r) ⟨fun j hj => set_other fun z => hj (by rw [z]; exact List.mem_singleton.mpr rfl), List.length_set .., Mu.shrink fun ds e => by cases e⟩
  | .tp ps, σ, ρ, ρ', v, d, Q, pr, R, r, ft, e, q => by
    rcases r with r | ⟨_, a, xs, ds, rfl, rfl, t, r⟩
    · cases r <;> try (cases e; done)
      rename_i xs ds t n l r
      have hl := bindPs.len (show bindPs ps ds ρ = some ρ' from e)
      exact ⟨_, xs, rfl, t.sq, by rw [r.len]; exact hl, bindPs.ok R r e q⟩
    · have hl := bindPs.len (show bindPs ps ds ρ = some ρ' from e)
      exact ⟨_, xs, rfl, SqT.of t, by rw [r.len]; exact hl, bindPs.ok R r e q⟩
theorem bindPs.ok {K : PySem.W.Frag} {M0 : Addr → Prop} {H0 H : Hp} : ∀ {ps : Pats} {σ : L2.St} {ρ ρ' : Rho} {vs : List V} {ds : List D} {Q : L2.St → Hp → Prop}, Rs M0 H0 H σ ρ → RpAll (Mu true M0 σ ρ) H vs ds → bindPs ps ds ρ = some ρ' →
    (∀ σ', Rs M0 H0 H σ' ρ' → Bnd M0 σ ρ (slPs ps) σ' ρ' → Q σ' H) → gPs K ps vs σ H Q
  | .nil, σ, ρ, ρ', vs, ds, Q, R, r, e, q => by
    cases r with
    | nil => cases e; exact ⟨rfl, q σ R ⟨fun _ _ => rfl, rfl, fun a m => m⟩⟩
    | cons h t => cases e
  | .cons p ps, σ, ρ, ρ', vs, ds, Q, R, r, e, q => by
    cases r with
    | nil => cases e
    | cons h t =>
      unfold bindPs at e
      obtain ⟨ρ1, e1, e⟩ := some_bind e
      refine ⟨_, _, rfl, bindP.ok (pr := false) R (.inl h) (by cases p <;> rfl) e1 fun σ1 R1 B1 => ?_⟩
      refine bindPs.ok R1 (t.reM fun a m => .inl (B1.mu a m)) e fun σ2 R2 B2 => q σ2 R2 ⟨fun j hj => ?_, B2.len.trans B1.len, fun a m => B1.mu a (B2.mu a m)⟩
      have hj : j ∉ slP p ++ slPs ps := hj
      rw [List.mem_append, not_or] at hj
      rw [B2.oth j hj.2, B1.oth j hj.1]
theorem bindPs.len : ∀ {ps : Pats} {ds : List D} {ρ ρ' : Rho}, bindPs ps ds ρ = some ρ' → ds.length = ps.len
  | .nil, [], _, _, _ => rfl
  | .nil, _ :: _, _, _, e => nomatch e
  | .cons _ _, [], _, _, e => nomatch e
  | .cons p ps, d :: ds, ρ, ρ', e => by
    unfold bindPs at e
    obtain ⟨ρ1, e1, e⟩ := some_bind e
    exact congrArg (· + 1) (bindPs.len e)
end
/-! ### walks -/
structure DW (pr : Bool) (M : Addr → Prop) (H1 : Hp) (J : It) (items : List D) : Prop where
  ex : ∃ G Y, Walk J items.length G Y ∧ (∀ H2, KpM M H1 H2 → G H2) ∧ ∀ i v Ha Hb, KpM M H1 Ha → Y i Ha v Hb → ∃ d, items[i]? = some d ∧ Same Ha Hb ∧ RpI pr M Hb v d
  sz : items.length ≤ sizeLine
def iD (μ pr : Bool) (it : Rho → Option (List D)) : TI := fun σ H R => ∃ M0 H0 ρ items, Rs M0 H0 H σ ρ ∧ it ρ = some items ∧ ∀ J H', Same H H' → (∀ M', (∀ a, M' a → Mu μ M0 σ ρ a ∨ H' a = none) → DW pr M' H' J items) → R J H'
def seqD : D → Option (List D)
  | .tuple ds => some ds
  | .list ds => some ds
  | _ => none
def itSeq (f : EF) : Rho → Option (List D) := fun ρ => (f ρ).bind seqD
theorem DW.tup {K : PySem.W.Frag} {M : Addr → Prop} {H : Hp} {a : Addr} {xs : List V} {ds : List D} (t : TupF H a xs) (n : ¬ M a) (l : xs.length ≤ sizeLine) (r : RpAll M H xs ds) : DW false M H (Itt K a) ds := by
  obtain ⟨o, e, z⟩ := t
  refine ⟨⟨fun H => SqT K H a xs, YAt xs, by rw [← r.len]; exact walk_tup, fun H2 k => TupF.sq ⟨o, k _ _ n e, z⟩, fun i v Ha Hb k y => ?_⟩, by rw [← r.len]; exact l⟩
  obtain ⟨rfl, y⟩ := y
  obtain ⟨d, e1, e2⟩ := (r.mono k).getV y
  exact ⟨d, e1, Same.refl _, .inl e2⟩
theorem DW.lst {K : PySem.W.Frag} {M : Addr → Prop} {H : Hp} {a : Addr} {xs : List V} {ds : List D} (t : H a = some (.lst xs)) (n : ¬ M a) (l : xs.length ≤ sizeLine) (r : RpAll M H xs ds) : DW false M H (Itl K a) ds := by
  refine ⟨⟨fun H => SqL K H a xs, YAt xs, by rw [← r.len]; exact walk_list, fun H2 k => SqL.of (k _ _ n t), fun i v Ha Hb k y => ?_⟩, by rw [← r.len]; exact l⟩
  obtain ⟨rfl, y⟩ := y
  obtain ⟨d, e1, e2⟩ := (r.mono k).getV y
  exact ⟨d, e1, Same.refl _, .inl e2⟩
theorem nM {M M' : Addr → Prop} {H : Hp} {a : Addr} {o : HO} (hM : ∀ a, M' a → M a ∨ H a = none) (n : ¬ M a) (e : H a = some o) : ¬ M' a := fun m => (hM _ m).elim n fun z => by rw [z] at e; cases e
theorem nMT {M M' : Addr → Prop} {H : Hp} {a : Addr} {xs : List V} (hM : ∀ a, M' a → M a ∨ H a = none) (n : ¬ M a) (e : TupF H a xs) : ¬ M' a := by
  obtain ⟨o, e, _⟩ := e
  exact nM hM n e
section
variable {X : Cx}
theorem dI_seq {tg e : Expr} {f : EF} {μ : Bool} (h : PE X e (tD μ f)) : PI X tg e (iD μ false (itSeq f)) := ⟨fun pn s σ H R I q => by
  obtain ⟨M0, H0, ρ, items, Rr, e, q⟩ := q
  obtain ⟨d, ed, e⟩ := some_bind e
  cases d <;> try (cases e; done)
  · cases e
    refine (pi_list (tg := tg) h).run pn s σ H R I ⟨M0, H0, ρ, _, Rr, ed, fun v H1 s1 r1 => ?_⟩
    cases r1 with
    | lst t n l r => exact ⟨_, rfl, ⟨_, SqL.of t⟩, q _ _ s1 fun M' hM => DW.lst t (nM hM n t) l (r.reM hM)⟩
  · cases e
    refine (pi_tup (tg := tg) h).run pn s σ H R I ⟨M0, H0, ρ, _, Rr, ed, fun v H1 s1 r1 => ?_⟩
    cases r1 with
    | tup t n l r => exact ⟨_, rfl, ⟨_, t.sq⟩, q _ _ s1 fun M' hM => DW.tup t (nMT hM n t) l (r.reM hM)⟩⟩
def rgD (lo : Int) (n : Nat) : List D := (List.range n).map fun (i : Nat) => PyData.int (lo + (i : Int))
def ran1D : List D → Option (List D)
  | [.int j] => if -(2 ^ 62) ≤ j ∧ j < 2 ^ 20 then some (rgD 0 j.toNat) else none
  | _ => none
def ran2D : List D → Option (List D)
  | [.int i, .int j] => if -(2 ^ 62) ≤ i ∧ i < 2 ^ 62 ∧ -(2 ^ 62) ≤ j ∧ j < 2 ^ 62 ∧ j - i < 2 ^ 20 then some (rgD i (j - i).toNat) else none
  | _ => none
def itG (g : List D → Option (List D)) (f : Rho → Option (List D)) : Rho → Option (List D) := fun ρ => (f ρ).bind g
theorem szR {n : Nat} (h : n ≤ 2 ^ 20) : n ≤ sizeLine := Nat.le_trans h (by decide)
theorem DW.rng {M : Addr → Prop} {H : Hp} {lo : Int} {n : Nat} (l : n ≤ sizeLine) : DW false M H (Itr lo n) (rgD lo n) := by
  have hl : (rgD lo n).length = n := by unfold rgD; rw [List.length_map, List.length_range]
  refine ⟨⟨fun _ => True, fun i H x H' => i < n ∧ YFn (fun i => V.int (lo + i)) i H x H', ?_, fun _ _ => trivial, fun i v Ha Hb k y => ?_⟩, by rw [hl]; exact l⟩
  · rw [hl]
    exact ⟨walk_range.goes, walk_range.stops, fun i H x H' hi g y => ⟨hi, walk_range.yields i H x H' hi g y⟩⟩
  · obtain ⟨hi, rfl, rfl⟩ := y
    refine ⟨.int (lo + i), ?_, Same.refl _, .inl (.int _)⟩
    unfold rgD
    rw [List.getElem?_map, List.getElem?_range hi]
    rfl
theorem dI_ran1 {tg a : Expr} {p pos : Pos} {f : Rho → Option (List D)} {μ : Bool} (hg : Gl X "range") (hm : X.mg "range" = none) (ha : PA X [a] (tA μ f)) (hs : starEach [a] X.env = [(false, eval a X.env)] := by rfl) : PI X tg (.Call (.Name "range" p) [a] [] pos) (iD μ false (itG ran1D f)) := (pi_range1 hg hm ha hs).wk fun σ H R q => by
  obtain ⟨M0, H0, ρ, items, Rr, e, q⟩ := q
  obtain ⟨ds, ed, e⟩ := some_bind e
  refine ⟨M0, H0, ρ, ds, Rr, ed, fun vs H1 s1 r1 => ?_⟩
  cases r1 with
  | nil => cases e
  | cons h t =>
    cases t with
    | nil =>
      cases h <;> try (cases e; done)
      obtain ⟨l, rfl⟩ := iteS e
      exact ⟨_, rfl, l.1, by omega, q _ _ s1 fun M' hM => DW.rng (szR (by omega))⟩
    | cons h2 t => cases h <;> cases e
theorem dI_ran2 {tg a b : Expr} {p pos : Pos} {f : Rho → Option (List D)} {μ : Bool} (hg : Gl X "range") (hm : X.mg "range" = none) (ha : PA X [a, b] (tA μ f)) (hs : starEach [a, b] X.env = [(false, eval a X.env), (false, eval b X.env)] := by rfl) (hs2 : starEach [b] X.env = [(false, eval b X.env)] := by rfl) : PI X tg (.Call (.Name "range" p) [a, b] [] pos) (iD μ false (itG ran2D f)) := (pi_range2 hg hm ha hs hs2).wk fun σ H R q => by
  obtain ⟨M0, H0, ρ, items, Rr, e, q⟩ := q
  obtain ⟨ds, ed, e⟩ := some_bind e
  refine ⟨M0, H0, ρ, ds, Rr, ed, fun vs H1 s1 r1 => ?_⟩
  cases r1 with
  | nil => cases e
  | cons h t =>
    cases t with
    | nil => cases h <;> cases e
    | cons h2 t =>
      cases t with
      | cons h3 t => cases h <;> cases h2 <;> cases e
      | nil =>
        cases h <;> cases h2 <;> try (cases e; done)
        obtain ⟨l, rfl⟩ := iteS e
        exact ⟨_, _, rfl, ⟨l.1, l.2.1, l.2.2.1, l.2.2.2.1⟩, q _ _ s1 fun M' hM => DW.rng (szR (by omega))⟩
def enGo : Nat → List D → List D
  | _, [] => []
  | i, d :: ds => .tuple [.int (i : Int), d] :: enGo (i + 1) ds
theorem enGo.len : ∀ (i : Nat) (ds : List D), (enGo i ds).length = ds.length
  | _, [] => rfl
  | i, d :: ds => congrArg (· + 1) (enGo.len (i + 1) ds)
theorem enGo.get : ∀ (i : Nat) (ds : List D) (j : Nat) (d : D), ds[j]? = some d → (enGo i ds)[j]? = some (.tuple [.int ((i + j : Nat) : Int), d])
  | _, [], _, _, e => nomatch e
  | i, d :: ds, 0, _, e => by cases e; rfl
  | i, d :: ds, j + 1, _, e => by
    have := enGo.get (i + 1) ds j _ e
    rw [show i + (j + 1) = i + 1 + j by omega]
    exact this
def enD : List D → Option (List D)
  | [.tuple ds] => some (enGo 0 ds)
  | [.list ds] => some (enGo 0 ds)
  | _ => none
theorem DW.pair {M : Addr → Prop} {H : Hp} {J : It} {n : Nat} {G : Hp → Prop} {fx fy : Nat → Option V} {items : List D} (W : Walk J n G (YPair fx fy)) (hn : n = items.length) (sz : n ≤ sizeLine) (hG : ∀ H2, KpM M H H2 → G H2)
    (hy : ∀ i x y Ha, KpM M H Ha → fx i = some x → fy i = some y → ∃ a b, items[i]? = some (.tuple [a, b]) ∧ Rp M Ha x a ∧ Rp M Ha y b) : DW true M H J items := by
  subst hn
  refine ⟨⟨G, YPair fx fy, W, hG, fun i v Ha Hb k y => ?_⟩, sz⟩
  obtain ⟨T, x, y, rfl, nT, rfl, ex, ey⟩ := y
  obtain ⟨a, b, e, ra, rb⟩ := hy i x y Ha k ex ey
  exact ⟨_, e, smN nT, .inr ⟨rfl, T, _, _, rfl, rfl, upd_same, .cons (ra.mono (.of (smN nT))) (.cons (rb.mono (.of (smN nT))) .nil)⟩⟩
theorem dI_enum {e : Expr} {p pos tpos : Pos} {elts : List Expr} {kk : Nat} {f : Rho → Option (List D)} {μ : Bool} (hg : Gl X "enumerate") (hm : X.mg "enumerate" = none) (ha : PA X [e] (tA μ f)) (hs : starEach [e] X.env = [(false, eval e X.env)] := by rfl) : PI X (.Tuple elts kk tpos) (.Call (.Name "enumerate" p) [e] [] pos) (iD μ true (itG enD f)) := ⟨fun pn s σ H R I q => by
  obtain ⟨M0, H0, ρ, items, Rr, e, q⟩ := q
  obtain ⟨ds, ed, e⟩ := some_bind e
  match ds, e with
  | [.list ds], e =>
    cases e
    refine (pi_enum hg hm ha hs).run pn s σ H R I ⟨M0, H0, ρ, _, Rr, ed, fun vs H1 s1 r1 => ?_⟩
    cases r1 with
    | cons h t =>
      cases t
      cases h with
      | lst t n l r =>
        refine ⟨_, _, rfl, SqL.of t, q _ _ s1 fun M' hM => DW.pair walk_enum (by rw [enGo.len, r.len]) l (fun H2 k => SqL.of (k _ _ (nM hM n t) t)) fun i x y Ha k ex ey => ?_⟩
        cases ex
        obtain ⟨d, e1, e2⟩ := ((r.reM hM).mono k).getV ey
        exact ⟨_, d, by rw [enGo.get 0 _ _ _ e1, Nat.zero_add], .int _, e2⟩
  | [.tuple ds], e =>
    cases e
    refine (pi_enumT hg hm ha hs).run pn s σ H R I ⟨M0, H0, ρ, _, Rr, ed, fun vs H1 s1 r1 => ?_⟩
    cases r1 with
    | cons h t =>
      cases t
      cases h with
      | tup t n l r =>
        refine ⟨_, _, rfl, t.sq, q _ _ s1 fun M' hM => DW.pair walk_enumT (by rw [enGo.len, r.len]) l (fun H2 k => ?_) fun i x y Ha k ex ey => ?_⟩
        · have n := nMT hM n t
          obtain ⟨o, e, z⟩ := t
          exact TupF.sq ⟨o, k _ _ n e, z⟩
        cases ex
        obtain ⟨d, e1, e2⟩ := ((r.reM hM).mono k).getV ey
        exact ⟨_, d, by rw [enGo.get 0 _ _ _ e1, Nat.zero_add], .int _, e2⟩⟩
def zpGo : List D → List D → List D
  | a :: as, b :: bs => .tuple [a, b] :: zpGo as bs
  | _, _ => []
theorem zpGo.len : ∀ (as bs : List D), (zpGo as bs).length = min as.length bs.length
  | [], bs => by cases bs <;> rfl
  | a :: as, [] => rfl
  | a :: as, b :: bs => by
    show (zpGo as bs).length + 1 = min (as.length + 1) (bs.length + 1)
    rw [zpGo.len as bs]
    omega
theorem zpGo.get : ∀ (as bs : List D) (j : Nat) (a b : D), as[j]? = some a → bs[j]? = some b → (zpGo as bs)[j]? = some (.tuple [a, b])
  | [], _, _, _, _, e, _ => nomatch e
  | _ :: _, [], _, _, _, _, e => nomatch e
  | a :: as, b :: bs, 0, _, _, e, f => by cases e; cases f; rfl
  | a :: as, b :: bs, j + 1, _, _, e, f => zpGo.get as bs j _ _ e f
def zpD : List D → Option (List D)
  | [.tuple a, .tuple b] => some (zpGo a b)
  | [.list a, .list b] => some (zpGo a b)
  | _ => none
theorem walk_zipX {K : PySem.W.Frag} {a b : Addr} {xs ys : List V} : Walk (RZ.ItzT K a b) (min xs.length ys.length) (fun H => SqT K H a xs ∧ SqT K H b ys) (YPair (fun i => xs[i]?) (fun i => ys[i]?)) := by
  refine ⟨fun i H hi z => ?_, fun H z => ⟨xs, ys, z.1, z.2, by omega⟩, fun i H v H' hi z y => ?_⟩
  · have h1 : i < xs.length := by omega
    have h2 : i < ys.length := by omega
    exact ⟨xs, ys, xs[i], ys[i], z.1, z.2, by simp [h1], by simp [h2]⟩
  · obtain ⟨T, x, u, h1, h2, h3, h4, h5⟩ := y
    exact ⟨T, x, u, h1, h2, h3, h4 xs z.1, h5 ys z.2⟩
theorem walk_zipY {K : PySem.W.Frag} {a b : Addr} {xs ys : List V} : Walk (L2.Itz K a b) (min xs.length ys.length) (fun H => SqL K H a xs ∧ SqL K H b ys) (YPair (fun i => xs[i]?) (fun i => ys[i]?)) := by
  refine ⟨fun i H hi z => ?_, fun H z => ⟨xs, ys, z.1, z.2, by omega⟩, fun i H v H' hi z y => ?_⟩
  · have h1 : i < xs.length := by omega
    have h2 : i < ys.length := by omega
    exact ⟨xs, ys, xs[i], ys[i], z.1, z.2, by simp [h1], by simp [h2]⟩
  · obtain ⟨T, x, u, h1, h2, h3, h4, h5⟩ := y
    exact ⟨T, x, u, h1, h2, h3, h4 xs z.1, h5 ys z.2⟩
theorem dI_zip {e e2 : Expr} {p pos tpos : Pos} {elts : List Expr} {kk : Nat} {f : Rho → Option (List D)} {μ : Bool} (hg : Gl X "zip") (hm : X.mg "zip" = none) (ha : PA X [e, e2] (tA μ f)) (hs : starEach [e, e2] X.env = (false, eval e X.env) :: starEach [e2] X.env := by rfl) (hpl : (backTo pos (starEach [e2] X.env)).any (·.1) = false := by rfl) :
    PI X (.Tuple elts kk tpos) (.Call (.Name "zip" p) [e, e2] [] pos) (iD μ true (itG zpD f)) := (RZ.pi_zipA hg hm ha hs hpl).wk fun σ H R q => by
  obtain ⟨M0, H0, ρ, items, Rr, e, q⟩ := q
  obtain ⟨ds, ed, e⟩ := some_bind e
  refine ⟨M0, H0, ρ, ds, Rr, ed, fun vs H1 s1 r1 => ?_⟩
  match ds, e, r1 with
  | [.tuple a, .tuple b], e, .cons (@Rp.tup _ _ a1 xs1 _ t n l r) (.cons (@Rp.tup _ _ a2 xs2 _ t2 n2 l2 r2) .nil) =>
    cases e
    refine ⟨_, _, _, _, rfl, .inr ⟨t.sq, t2.sq, q _ _ s1 fun M' hM => DW.pair (walk_zipX (xs := xs1) (ys := xs2)) (by rw [zpGo.len, r.len, r2.len]) (by omega) (fun H2 k => ?_) fun i x y Ha k ex ey => ?_⟩⟩
    · have n := nMT hM n t
      have n2 := nMT hM n2 t2
      obtain ⟨o, e, z⟩ := t
      obtain ⟨o2, e2, z2⟩ := t2
      exact ⟨TupF.sq ⟨o, k _ _ n e, z⟩, TupF.sq ⟨o2, k _ _ n2 e2, z2⟩⟩
    · obtain ⟨d, e1, e2⟩ := ((r.reM hM).mono k).getV ex
      obtain ⟨d', e3, e4⟩ := ((r2.reM hM).mono k).getV ey
      exact ⟨d, d', zpGo.get _ _ _ _ _ e1 e3, e2, e4⟩
  | [.list a, .list b], e, .cons (@Rp.lst _ _ a1 xs1 _ t n l r) (.cons (@Rp.lst _ _ a2 xs2 _ t2 n2 l2 r2) .nil) =>
    cases e
    refine ⟨_, _, _, _, rfl, .inl ⟨SqL.of t, SqL.of t2, q _ _ s1 fun M' hM => DW.pair (walk_zipY (xs := xs1) (ys := xs2)) (by rw [zpGo.len, r.len, r2.len]) (by omega) (fun H2 k => ⟨SqL.of (k _ _ (nM hM n t) t), SqL.of (k _ _ (nM hM n2 t2) t2)⟩) fun i x y Ha k ex ey => ?_⟩⟩
    obtain ⟨d, e1, e2⟩ := ((r.reM hM).mono k).getV ex
    obtain ⟨d', e3, e4⟩ := ((r2.reM hM).mono k).getV ey
    exact ⟨d, d', zpGo.get _ _ _ _ _ e1 e3, e2, e4⟩
end
end Dl
namespace Dl
open PySem PySem.Spec PyProof.Rows L2 Rt
/-! ### comprehensions -/
def sealL (μ : Bool) : Option LV → Option LV
  | some (.own ds) => if μ = true then none else some (.dat (.list ds))
  | x => x
def shutR (μ : Bool) (ρ : Rho) : Rho := ρ.map (sealL μ)
def wipeR : Rho → List Nat → Rho
  | ρ, [] => ρ
  | ρ, v :: vs => (wipeR ρ vs).set v none
theorem wipe_get {σ : L2.St} : ∀ {vs : List Nat} {j : Nat}, j ∉ vs → (wipe σ vs)[j]? = σ[j]?
  | [], _, _ => rfl
  | v :: vs, j, h => by
    have h : j ≠ v ∧ j ∉ vs := by simpa using h
    show ((wipe σ vs).set v none)[j]? = σ[j]?
    rw [set_other h.1.symm, wipe_get h.2]
theorem wipe_len {σ : L2.St} : ∀ {vs : List Nat}, (wipe σ vs).length = σ.length
  | [] => rfl
  | v :: vs => by
    show ((wipe σ vs).set v none).length = σ.length
    rw [List.length_set, wipe_len]
theorem wipe_in {σ : L2.St} : ∀ {vs : List Nat} {j : Nat}, j ∈ vs → (wipe σ vs)[j]? = if j < σ.length then some none else none
  | v :: vs, j, h => by
    show ((wipe σ vs).set v none)[j]? = _
    by_cases e : v = j
    · subst e
      rw [List.getElem?_set, if_pos rfl, wipe_len]
    · rw [set_other e]
      refine wipe_in ?_
      rcases List.mem_cons.mp h with h | h
      · exact (e h.symm).elim
      · exact h
theorem wipe_eq {σ σ2 : L2.St} {vs sl : List Nat} (h : ∀ j, j ∉ sl → σ2[j]? = (wipe σ vs)[j]?) (hl : σ2.length = (wipe σ vs).length) (hs : ∀ j, j ∈ sl → j ∈ vs) : wipe σ2 vs = wipe σ vs := by
  rw [wipe_len] at hl
  apply List.ext_getElem?
  intro j
  by_cases hj : j ∈ vs
  · rw [wipe_in hj, wipe_in hj, hl]
  · rw [wipe_get hj, wipe_get hj, h j fun z => hj (hs j z), wipe_get hj]
theorem seal_get {μ : Bool} {ρ : Rho} {i : Nat} {x : LV} (h : (shutR μ ρ)[i]? = some (some x)) : (ρ[i]? = some (some x) ∧ ∀ ds, x ≠ .own ds) ∨ (μ = false ∧ ∃ ds, ρ[i]? = some (some (.own ds)) ∧ x = .dat (.list ds)) := by
  unfold shutR at h
  rw [List.getElem?_map] at h
  cases e : ρ[i]? with
  | none => rw [e] at h; cases h
  | some y =>
    rw [e] at h
    have h : sealL μ y = some x := by simpa using h
    match y, h with
    | some (.own ds), h =>
      unfold sealL at h
      cases μ with
      | true => cases h
      | false => cases h; exact .inr ⟨rfl, ds, rfl, rfl⟩
    | some (.dat d), h => cases h; exact .inl ⟨rfl, fun ds z => by cases z⟩
    | some (.raw d), h => cases h; exact .inl ⟨rfl, fun ds z => by cases z⟩
    | some .pool, h => cases h; exact .inl ⟨rfl, fun ds z => by cases z⟩
    | none, h => cases h
def Mi (μ : Bool) (M0 : Addr → Prop) (σ : L2.St) (ρ : Rho) (D : Addr) (p : Addr) : Prop := Mu μ M0 σ ρ p ∨ p = D
theorem Mi.noOwn {μ : Bool} {M1 : Addr → Prop} {σ' : L2.St} {ρ : Rho} {vs : List Nat} : ∀ a, Mu true M1 σ' (wipeR (shutR μ ρ) vs) a → M1 a := fun a m => by
  rcases m with m | ⟨_, i, ds, e, _⟩
  · exact m
  · exfalso
    have : ∀ (vs : List Nat) (i : Nat), (wipeR (shutR μ ρ) vs)[i]? = some (some (.own ds)) → False := by
      intro vs
      induction vs with
      | nil =>
        intro i e
        rcases seal_get (show (shutR μ ρ)[i]? = _ from e) with ⟨_, z⟩ | ⟨_, _, _, z⟩
        · exact z ds rfl
        · cases z
      | cons v vs ih =>
        intro i e
        rcases set_get (show ((wipeR (shutR μ ρ) vs).set v none)[i]? = _ from e) with ⟨_, z⟩ | ⟨_, z⟩
        · cases z
        · exact ih i z
    exact this vs i e
theorem Rs.inner {μ : Bool} {M0 : Addr → Prop} {H0 H H2 : Hp} {σ : L2.St} {ρ : Rho} {D : Addr} {ob : HO} (R : Rs M0 H0 H σ ρ) (hD : H D = none) (s : Same H H2) (eD : H2 D = some ob) (vs : List Nat) : Rs (Mi μ M0 σ ρ D) H2 H2 (wipe σ vs) (wipeR (shutR μ ρ) vs) := by
  have base : Rs (Mi μ M0 σ ρ D) H2 H2 σ (shutR μ ρ) := by
    have no := Mi.noOwn (μ := μ) (M1 := Mi μ M0 σ ρ D) (σ' := σ) (ρ := ρ) (vs := [])
    refine ⟨Same.refl _, fun p m => ?_, ?_, fun i d e => ?_, fun i ds e => ?_, fun i v e => ?_, fun i j a b p e1 e2 e3 e4 => ?_⟩
    · rcases m with m | rfl
      · exact ((R.domu μ).mono s) p m
      · rw [eD]; intro z; cases z
    · unfold shutR; rw [List.length_map]; exact R.len
    · rcases seal_get e with ⟨e8, _⟩ | ⟨rfl, ds, e8, z9⟩
      · cases μ with
        | true =>
          obtain ⟨v, a, b⟩ := R.dat i d e8
          refine ⟨v, a, (b.reM fun a m => ?_).mono (.of s)⟩
          rcases no a m with m | rfl
          · exact .inl m
          · exact .inr hD
        | false =>
          obtain ⟨v, a, b⟩ := R.dat i d e8
          refine ⟨v, a, (b.reM fun a m => ?_).mono (.of s)⟩
          rcases no a m with m | rfl
          · exact Mu.up a m
          · exact .inr hD
      · cases z9
        obtain ⟨p, vs, a, b, c, l, r⟩ := R.own i ds e8
        refine ⟨.ref p, a, (Rp.lst b (fun m => ?_) l (r.reM fun a m => ?_)).mono (.of s)⟩
        · rcases no p m with m | rfl
          · rcases m with m | ⟨z, _⟩
            · exact R.dom p m c
            · cases z
          · rw [hD] at b; cases b
        · rcases no a m with m | rfl
          · exact Mu.up a m
          · exact .inr hD
    · rcases seal_get e with ⟨e, z⟩ | ⟨_, _, _, z⟩
      · exact (z ds rfl).elim
      · cases z
    · rcases seal_get e with ⟨e, z⟩ | ⟨_, _, _, z⟩
      · exact R.raw i v e
      · cases z
    · rcases seal_get e1 with ⟨e, z⟩ | ⟨_, _, _, z⟩
      · exact (z _ rfl).elim
      · cases z
  induction vs with
  | nil => exact base
  | cons v vs ih => exact ih.clear v none
def lcGo (p : Pat) (c : Rho → Option Bool) (f : EF) (ρ : Rho) : List D → Option (List D)
  | [] => some []
  | x :: xs => (bindP p x ρ).bind fun ρ1 => (c ρ1).bind fun b => if b = true then (f ρ1).bind fun d => (lcGo p c f ρ xs).map fun r => d :: r else lcGo p c f ρ xs
def eLc (μ : Bool) (vs : List Nat) (it : Rho → Option (List D)) (p : Pat) (c : Rho → Option Bool) (f : EF) : EF := fun ρ => (it ρ).bind fun items => (lcGo p c f (wipeR (shutR μ ρ) vs) items).map .list
theorem some_map {α β : Type} {o : Option α} {f : α → β} {b : β} (h : o.map f = some b) : ∃ a, o = some a ∧ f a = b := by
  cases o with
  | none => cases h
  | some a => cases h; exact ⟨a, rfl, rfl⟩
theorem drop_at {α : Type} {xs : List α} {i : Nat} {x : α} (h : xs[i]? = some x) : xs.drop i = x :: xs.drop (i + 1) := by
  obtain ⟨hl, e⟩ := List.getElem?_eq_some_iff.mp h
  rw [List.drop_eq_getElem_cons hl, e]
theorem lcCore {K : PySem.W.Frag} {μ μi pr : Bool} {M0 : Addr → Prop} {H0 H1 : Hp} {σ : L2.St} {ρ : Rho} {J : It} {items res : List D} {p : Pat} {c : Rho → Option Bool} {f : EF} {vs : List Nat} {D : Addr} {Qd : Hp → Prop}
    (R : Rs M0 H0 H1 σ ρ) (dw : ∀ M', (∀ a, M' a → Mu μ M0 σ ρ a ∨ H1 a = none) → DW pr M' H1 J items) (hD : H1 D = none) (hp : p.fits pr = true) (hs : ∀ j, j ∈ slP p → j ∈ vs) (e : lcGo p c f (wipeR (shutR μ ρ) vs) items = some res)
    (q : ∀ H acc, Same H1 H → H D = some (.lst acc) → acc.length ≤ sizeLine → RpAll (Mi μ M0 σ ρ D) H acc res → Qd H) :
    ∃ W : Nat → Nat → Hp → Prop, (∃ m, W 0 m (upd H1 D (.lst []))) ∧ ∀ i m H, W i m H →
      (J.stop i H ∧ Qd H) ∨ (J.go i H ∧ ∃ Nx : Hp → Prop, (∀ H', Nx H' → ∃ m', m' < m ∧ W (i + 1) m' H') ∧ ∀ x H', J.yld i H x H' → gP K p x (wipe σ vs) H' fun σ2 H2 => wipe σ2 vs = wipe σ vs ∧ tT c σ2 H2 fun b H3 =>
        if b = true then tD μi f σ2 H3 fun y H4 => ∃ acc, H4 D = some (.lst acc) ∧ acc.length < sizeLine ∧ Nx (upd H4 D (.lst (acc ++ [y]))) else Nx H3) := by
  have dw := dw (Mi μ M0 σ ρ D) fun a m => m.elim .inl fun z => .inr (by rw [z]; exact hD)
  have sz := dw.sz
  obtain ⟨G, Y, W, hG, hY⟩ := dw.ex
  refine lc_it W (fun i H => Same H1 H ∧ ∃ acc done rest, H D = some (.lst acc) ∧ acc.length ≤ i ∧ RpAll (Mi μ M0 σ ρ D) H acc done ∧ lcGo p c f (wipeR (shutR μ ρ) vs) (items.drop i) = some rest ∧ done ++ rest = res) ⟨smN hD, [], [], res, upd_same, Nat.le_refl _, .nil, e, rfl⟩ (fun i H hi h => hG H (.of h.1)) (fun i v H H' hi h y => ?_) (fun H h => ?_)
  · obtain ⟨sm, acc, done, rest, eD, la, ra, er, et⟩ := h
    obtain ⟨d, ed, s2, rv⟩ := hY i v H H' (.of sm) y
    rw [drop_at ed] at er
    unfold lcGo at er
    obtain ⟨ρ1, e1, er⟩ := some_bind er
    obtain ⟨b, eb, er⟩ := some_bind er
    have Rin := R.inner (μ := μ) hD (sm.trans s2) (s2 _ _ eD) vs
    refine bindP.ok (pr := pr) Rin ?_ hp e1 fun σ2 R2 B2 => ⟨wipe_eq B2.oth B2.len hs, _, _, ρ1, b, R2, eb, fun H3 s3 => ?_⟩
    · rcases rv with rv | ⟨zp, a, xs, ds, z1, z2, z3, z4⟩
      · exact .inl (rv.reM fun a m => .inl (Mi.noOwn a m))
      · exact .inr ⟨zp, a, xs, ds, z1, z2, z3, z4.reM fun a m => .inl (Mi.noOwn a m)⟩
    have s13 := (sm.trans s2).trans s3
    cases b with
    | true =>
      obtain ⟨dv, edv, er⟩ := some_bind (show (f ρ1).bind _ = some rest from er)
      obtain ⟨r2, er2, rfl⟩ := some_map er
      refine ⟨_, _, ρ1, dv, R2.mono s3, edv, fun y H4 s4 r4 => ?_⟩
      have s14 := s13.trans s4
      have eD4 := (s2.trans (s3.trans s4)) _ _ eD
      have kp : KpM (Mi μ M0 σ ρ D) H4 (upd H4 D (.lst (acc ++ [y]))) := fun q o n e => by
        rw [upd_ne (fun z => n (.inr z))]
        exact e
      have r4 : Rp (Mi μ M0 σ ρ D) H4 y dv := r4.reM fun a m => .inl (.inl m)
      refine ⟨acc, eD4, by omega, fun q o e => ?_, acc ++ [y], done ++ [dv], r2, upd_same, by rw [List.length_append]; simp; omega, ?_, er2, by rw [← et, List.append_assoc]; rfl⟩
      · rw [upd_ne (ne_of_none e hD)]
        exact s14 _ _ e
      · exact ((ra.mono (.of (s2.trans (s3.trans s4)))).mono kp).app (.cons (r4.mono kp) .nil)
    | false =>
      exact ⟨s13, acc, done, rest, (s2.trans s3) _ _ eD, by omega, ra.mono (.of (s2.trans s3)), er, et⟩
  · obtain ⟨sm, acc, done, rest, eD, la, ra, er, et⟩ := h
    rw [List.drop_length] at er
    cases er
    rw [List.append_nil] at et
    subst et
    exact q H acc sm eD (by omega) ra
section
variable {X : Cx} {K : PySem.W.Frag}
def oYes : Rho → Option Bool := fun _ => some true
theorem _root_.L2.PTs.wk {es : List Expr} {t t' : TT} (h : PTs X es t) (m : ∀ σ H Q, t' σ H Q → t σ H Q) : PTs X es t' := ⟨fun pn s σ H Q I q => h.run pn s σ H Q I (m _ _ _ q)⟩
theorem dTs_nil : PTs X [] (tT oYes) := pts_nil.wk fun σ H Q q => by
  obtain ⟨M0, H0, ρ, b, R, e, q⟩ := q
  cases e
  exact q _ (Same.refl _)
/-- a new list, whose address is nobody's -/
def tN (f : EF) : TE := fun σ H Q => ∃ M0 H0 ρ ds, Rs M0 H0 H σ ρ ∧ f ρ = some (.list ds) ∧ ∀ p vs H', H p = none → Same H H' → H' p = some (.lst vs) → vs.length ≤ sizeLine → RpAll (Mi true M0 σ ρ p) H' vs ds → Q (.ref p) H'
theorem dLc {it : Rho → Option (List D)} {p : Pat} {c : Rho → Option Bool} {f : EF} {vs : List Nat} {μ μi pr : Bool} (hp : p.fits pr = true) (hs : ∀ j, j ∈ slP p → j ∈ vs) {σ : L2.St} {H : Hp} {Q : VK} (q : tD μ (eLc μ vs it p c f) σ H Q) : tLc (iD μ pr it) (gP K p) (tT c) (tD μi f) vs σ H Q := by
  obtain ⟨M0, H0, ρ, d, R, e, q⟩ := q
  obtain ⟨items, ei, e⟩ := some_bind e
  obtain ⟨res, er, rfl⟩ := some_map e
  refine ⟨M0, H0, ρ, items, R, ei, fun J H1 s1 dw D hD => lcCore (R.mono s1) dw hD hp hs er fun H2 acc s2 eD la ra => q _ _ (s1.trans s2) (.lst eD (((R.mono s1).domu μ).not hD) la (ra.reM fun a m => .inl (.inl m)))⟩
theorem nLc {it : Rho → Option (List D)} {p : Pat} {c : Rho → Option Bool} {f : EF} {vs : List Nat} {μi pr : Bool} (hp : p.fits pr = true) (hs : ∀ j, j ∈ slP p → j ∈ vs) {σ : L2.St} {H : Hp} {Q : VK} (q : tN (eLc true vs it p c f) σ H Q) : tLc (iD true pr it) (gP K p) (tT c) (tD μi f) vs σ H Q := by
  obtain ⟨M0, H0, ρ, d, R, e, q⟩ := q
  obtain ⟨items, ei, e⟩ := some_bind e
  obtain ⟨res, er, e⟩ := some_map e
  cases e
  refine ⟨M0, H0, ρ, items, R, ei, fun J H1 s1 dw D hD => lcCore (R.mono s1) dw hD hp hs er fun H2 acc s2 eD la ra => q D acc H2 ?_ (s1.trans s2) eD la ra⟩
  cases z : H D with
  | none => rfl
  | some o => rw [s1 _ _ z] at hD; cases hD
/-! ### statements -/
def sAsg (p : Pat) (f : EF) : Rho → Option Out := fun ρ => (f ρ).bind fun d => (bindP p d ρ).map .nx
theorem dS_asg {st : Stmt} {p : Pat} {f : EF} (h : PS X st (tAsg (tD true f) (gP K p))) : PS X st (tS (sAsg p f)) := h.wk fun Dn σ H q => by
  obtain ⟨M0, H0, ρ, o, R, e, q⟩ := q
  obtain ⟨d, ed, e⟩ := some_bind e
  obtain ⟨ρ1, e1, rfl⟩ := some_map e
  exact ⟨M0, H0, ρ, d, R, ed, fun v H1 s1 r1 => bindP.ok (pr := false) (R.mono s1) (.inl r1) (by cases p <;> rfl) e1 fun σ1 R1 B1 => q σ1 H1 R1 ⟨.of s1, fun p m => .inl (B1.mu p m)⟩⟩
def sRet (f : EF) : Rho → Option Out := fun ρ => (f ρ).map .rt
theorem dS_ret {st : Stmt} {f : EF} {μ : Bool} (h : PS X st (tRet (tD μ f))) : PS X st (tS (sRet f)) := h.wk fun Dn σ H q => by
  obtain ⟨M0, H0, ρ, o, R, e, q⟩ := q
  obtain ⟨d, ed, rfl⟩ := some_map e
  exact ⟨M0, H0, ρ, d, R, ed, fun v H1 s1 r1 => q v H1 (R.sm.trans s1) (r1.reM Mu.lo)⟩
def sRetN : Rho → Option Out := fun _ => some (.rt .none)
theorem dS_retN {pos : Pos} : PS X (.Return none pos) (tS sRetN) := ps_retN.wk fun Dn σ H q => by
  obtain ⟨M0, H0, ρ, o, R, e, q⟩ := q
  cases e
  exact q _ H R.sm .non
def sDrop (f : EF) : Rho → Option Out := fun ρ => (f ρ).map fun _ => .nx ρ
theorem dS_expr {st : Stmt} {f : EF} {μ : Bool} (h : PS X st (tDrop (tD μ f))) : PS X st (tS (sDrop f)) := h.wk fun Dn σ H q => by
  obtain ⟨M0, H0, ρ, o, R, e, q⟩ := q
  obtain ⟨d, ed, rfl⟩ := some_map e
  exact ⟨M0, H0, ρ, d, R, ed, fun v H1 s1 r1 => q σ H1 (R.mono s1) ⟨.of s1, fun p m => .inl m⟩⟩
def sIf (c : Rho → Option Bool) (f g : Rho → Option Out) : Rho → Option Out := fun ρ => (c ρ).bind fun b => if b = true then f ρ else g ρ
/-- from a later heap, where what stood stands -/
def Post (M0 : Addr → Prop) (H0 : Hp) (σ : L2.St) (ρ : Rho) (H : Hp) (Dn : Ends) : Out → Prop
  | .nx ρ' => ∀ σ' H', Rs M0 H0 H' σ' ρ' → Stp M0 σ ρ H σ' ρ' H' → Dn.nx σ' H'
  | .rt d => ∀ v H', Same H0 H' → Rp M0 H' v d → Dn.rt v H'
  | .bk ρ' => ∀ σ' H', Rs M0 H0 H' σ' ρ' → Stp M0 σ ρ H σ' ρ' H' → Dn.bk σ' H'
  | .ct ρ' => ∀ σ' H', Rs M0 H0 H' σ' ρ' → Stp M0 σ ρ H σ' ρ' H' → Dn.ct σ' H'
theorem tS_iff {f : Rho → Option Out} {Dn : Ends} {σ : L2.St} {H : Hp} : tS f Dn σ H ↔ ∃ M0 H0 ρ o, Rs M0 H0 H σ ρ ∧ f ρ = some o ∧ Post M0 H0 σ ρ H Dn o := by
  constructor
  · rintro ⟨M0, H0, ρ, o, R, e, q⟩
    exact ⟨M0, H0, ρ, o, R, e, by cases o <;> exact q⟩
  · rintro ⟨M0, H0, ρ, o, R, e, q⟩
    exact ⟨M0, H0, ρ, o, R, e, by cases o <;> exact q⟩
theorem Post.from {M0 : Addr → Prop} {H0 : Hp} {σ σ1 : L2.St} {ρ ρ1 : Rho} {H H1 : Hp} {Dn : Ends} {o : Out} (st : Stp M0 σ ρ H σ1 ρ1 H1) (p : Post M0 H0 σ ρ H Dn o) : Post M0 H0 σ1 ρ1 H1 Dn o := by
  cases o with
  | nx ρ' => exact fun σ' H' R s => p σ' H' R (st.trans s)
  | rt d => exact p
  | bk ρ' => exact fun σ' H' R s => p σ' H' R (st.trans s)
  | ct ρ' => exact fun σ' H' R s => p σ' H' R (st.trans s)
theorem Stp.of {M0 : Addr → Prop} {σ : L2.St} {ρ : Rho} {H H' : Hp} (s : Same H H') : Stp M0 σ ρ H σ ρ H' := ⟨.of s, fun p m => .inl m⟩
theorem dS_if {c : Expr} {a b : List Stmt} {pos : Pos} {t : Rho → Option Bool} {f g : Rho → Option Out} (hc : PT X c (tT t)) (ha : PSs X a (tS f)) (hb : PSs X b (tS g)) : PS X (.If c a b pos) (tS (sIf t f g)) := (ps_if hc ha hb).wk fun Dn σ H q => by
  obtain ⟨M0, H0, ρ, o, R, e, q⟩ := tS_iff.mp q
  obtain ⟨c, ec, e⟩ := some_bind e
  refine ⟨M0, H0, ρ, c, R, ec, fun H1 s1 => ?_⟩
  cases c with
  | true => exact tS_iff.mpr ⟨M0, H0, ρ, o, R.mono s1, e, q.from (.of s1)⟩
  | false => exact tS_iff.mpr ⟨M0, H0, ρ, o, R.mono s1, e, q.from (.of s1)⟩
def sSeq (f g : Rho → Option Out) : Rho → Option Out := fun ρ => (f ρ).bind fun o => match o with
  | .nx ρ' => g ρ'
  | o => some o
theorem dSs_cons {st : Stmt} {rest : List Stmt} {f g : Rho → Option Out} (h : PS X st (tS f)) (hs : PSs X rest (tS g)) : PSs X (st :: rest) (tS (sSeq f g)) := (pss_cons h hs).wk fun Dn σ H q => by
  obtain ⟨M0, H0, ρ, o, R, e, q⟩ := tS_iff.mp q
  obtain ⟨o1, e1, e⟩ := some_bind e
  refine tS_iff.mpr ⟨M0, H0, ρ, o1, R, e1, ?_⟩
  cases o1 with
  | nx ρ' => exact fun σ' H' R' s => tS_iff.mpr ⟨M0, H0, ρ', o, R', e, q.from s⟩
  | rt d => cases e; exact q
  | bk ρ' => cases e; exact q
  | ct ρ' => cases e; exact q
theorem dSs_one {st : Stmt} {f : Rho → Option Out} (h : PS X st (tS f)) : PSs X [st] (tS f) := pss_one h
def sNil : Rho → Option Out := fun ρ => some (.nx ρ)
theorem dSs_nil : PSs X [] (tS sNil) := pss_nil.wk fun Dn σ H q => by
  obtain ⟨M0, H0, ρ, o, R, e, q⟩ := tS_iff.mp q
  cases e
  exact q σ H R .refl
theorem dS_pass {pos : Pos} : PS X (.Pass pos) (tS sNil) := ps_pass.wk fun Dn σ H q => by
  obtain ⟨M0, H0, ρ, o, R, e, q⟩ := tS_iff.mp q
  cases e
  exact q σ H R .refl
def forGo (p : Pat) (body : Rho → Option Out) : List D → Rho → Option Out
  | [], ρ => some (.nx ρ)
  | x :: xs, ρ => (bindP p x ρ).bind fun ρ1 => (body ρ1).bind fun o => match o with
    | .nx ρ2 => forGo p body xs ρ2
    | .ct ρ2 => forGo p body xs ρ2
    | .bk ρ2 => some (.nx ρ2)
    | .rt d => some (.rt d)
def sFor (it : Rho → Option (List D)) (p : Pat) (body : Rho → Option Out) : Rho → Option Out := fun ρ => (it ρ).bind fun items => forGo p body items ρ
theorem dFor {it : Rho → Option (List D)} {p : Pat} {body : Rho → Option Out} {pr : Bool} (hp : p.fits pr = true) {Dn : Ends} {σ : L2.St} {H : Hp} (q : tS (sFor it p body) Dn σ H) : tFor (iD true pr it) (gP K p) (tS body) Dn σ H := by
  obtain ⟨M0, H0, ρ, o, R, e, q⟩ := tS_iff.mp q
  obtain ⟨items, ei, e⟩ := some_bind e
  refine ⟨M0, H0, ρ, items, R, ei, fun J H1 s1 dw => ⟨fun i m σ' H' => i ≤ items.length ∧ m = items.length - i ∧ ∃ ρ', Rs M0 H0 H' σ' ρ' ∧ Stp M0 σ ρ H1 σ' ρ' H' ∧ forGo p body (items.drop i) ρ' = some o, ⟨_, Nat.zero_le _, rfl, ρ, R.mono s1, .refl, e⟩, ?_⟩⟩
  rintro i m σ' H' ⟨hi, rfl, ρ', R', st, e⟩
  have dw := dw (fun a => Mu true M0 σ' ρ' a ∨ Mu true M0 σ ρ a) fun a m => m.elim (st.ow a) .inl
  obtain ⟨G, Y, W, hG, hY⟩ := dw.ex
  have kp : KpM (fun a => Mu true M0 σ' ρ' a ∨ Mu true M0 σ ρ a) H1 H' := fun p o n e => st.kp p o (fun m => n (.inr m)) e
  by_cases hlt : i < items.length
  · refine .inr ⟨W.goes i H' hlt (hG _ kp), fun σ3 H3 => ∃ ρ3, Rs M0 H0 H3 σ3 ρ3 ∧ Stp M0 σ ρ H1 σ3 ρ3 H3 ∧ forGo p body (items.drop (i + 1)) ρ3 = some o, fun σ3 H3 h => ⟨items.length - (i + 1), by omega, hlt, rfl, h⟩, fun x Hb y => ?_⟩
    obtain ⟨d, ed, s2, rv⟩ := hY i x H' Hb kp (W.yields i H' x Hb hlt (hG _ kp) y)
    rw [drop_at ed] at e
    unfold forGo at e
    obtain ⟨ρ1, e1, e⟩ := some_bind e
    obtain ⟨o1, eo, e⟩ := some_bind e
    refine bindP.ok (pr := pr) (R'.mono s2) ?_ hp e1 fun σ2 R2 B2 => tS_iff.mpr ⟨M0, H0, ρ1, o1, R2, eo, ?_⟩
    · rcases rv with rv | ⟨zp, a, xs, ds, z1, z2, z3, z4⟩
      · exact .inl (rv.reM fun a m => .inl (.inl m))
      · exact .inr ⟨zp, a, xs, ds, z1, z2, z3, z4.reM fun a m => .inl (.inl m)⟩
    have st2 : Stp M0 σ' ρ' H' σ2 ρ1 Hb := ⟨.of s2, fun p m => .inl (B2.mu p m)⟩
    cases o1 with
    | nx ρ2 => exact fun σ3 H3 R3 s3 => ⟨ρ2, R3, (st.trans st2).trans s3, e⟩
    | ct ρ2 => exact fun σ3 H3 R3 s3 => ⟨ρ2, R3, (st.trans st2).trans s3, e⟩
    | bk ρ2 => cases e; exact fun σ3 H3 R3 s3 => q σ3 H3 R3 ((Stp.of s1).trans ((st.trans st2).trans s3))
    | rt d => cases e; exact q
  · have : i = items.length := by omega
    subst this
    rw [List.drop_length] at e
    cases e
    exact .inl ⟨W.stops H' (hG _ kp), q σ' H' R' ((Stp.of s1).trans st)⟩
theorem dS_for {st : Stmt} {it : Rho → Option (List D)} {p : Pat} {body : Rho → Option Out} {pr : Bool} (h : PS X st (tFor (iD true pr it) (gP K p) (tS body))) (hp : p.fits pr = true := by rfl) : PS X st (tS (sFor it p body)) := h.wk fun Dn σ H q => dFor hp q
/-! lists of one's own -/
theorem Rs.ownSet {M0 : Addr → Prop} {H0 H : Hp} {σ : L2.St} {ρ : Rho} {i : Nat} {ds ds' : List D} {p : Addr} {vs vs' : List V} (R : Rs M0 H0 H σ ρ) (e : ρ[i]? = some (some (.own ds))) (es : σ[i]? = some (some (.ref p))) (eH : H p = some (.lst vs)) (l : vs'.length ≤ sizeLine) (r : RpAll (Mu true M0 σ ρ) H vs' ds') :
    Rs M0 H0 (upd H p (.lst vs')) σ (ρ.set i (some (.own ds'))) ∧ Stp M0 σ ρ H σ (ρ.set i (some (.own ds'))) (upd H p (.lst vs')) := by
  have hi : i < ρ.length := (List.getElem?_eq_some_iff.mp e).1
  have mp : Mu true M0 σ ρ p := .inr ⟨rfl, i, ds, e, es⟩
  have mu : ∀ a, Mu true M0 σ (ρ.set i (some (.own ds'))) a → Mu true M0 σ ρ a := fun a m => by
    rcases m with m | ⟨_, j, es', e1, e2⟩
    · exact .inl m
    · rcases set_get e1 with ⟨rfl, _⟩ | ⟨n, e1⟩
      · exact .inr ⟨rfl, i, ds, e, e2⟩
      · exact .inr ⟨rfl, j, es', e1, e2⟩
  have kp : KpM (Mu true M0 σ ρ) H (upd H p (.lst vs')) := fun a o n e => by
    rw [upd_ne (fun z => n (by rw [z]; exact mp))]
    exact e
  have h0 : H0 p = none := by
    obtain ⟨q, us, a, b, c, _⟩ := R.own i ds e
    rw [es] at a
    cases a
    exact c
  refine ⟨⟨fun a o e => ?_, R.dom, by rw [List.length_set]; exact R.len, fun j d e1 => ?_, fun j es' e1 => ?_, fun j v e1 => ?_, fun j k a b q e1 e2 e3 e4 => ?_⟩, kp, fun a m => .inl (mu a m)⟩
  · rw [upd_ne (fun z => by rw [z, h0] at e; cases e)]
    exact R.sm a o e
  · rcases set_get e1 with ⟨_, z⟩ | ⟨n, e1⟩
    · cases z
    · obtain ⟨v, a, b⟩ := R.dat j d e1
      exact ⟨v, a, (b.mono kp).reM fun a m => .inl (mu a m)⟩
  · rcases set_get e1 with ⟨rfl, z⟩ | ⟨n, e1⟩
    · cases z
      exact ⟨p, vs', es, upd_same, h0, l, (r.mono kp).reM fun a m => .inl (mu a m)⟩
    · obtain ⟨q, us, a, b, c, l', r'⟩ := R.own j es' e1
      refine ⟨q, us, a, ?_, c, l', (r'.mono kp).reM fun a m => .inl (mu a m)⟩
      rw [upd_ne (fun z => n (R.inj i j ds es' p e e1 es (by rw [← z]; exact a)))]
      exact b
  · rcases set_get e1 with ⟨_, z⟩ | ⟨n, e1⟩
    · cases z
    · exact R.raw j v e1
  · have f1 : ∃ a', ρ[j]? = some (some (.own a')) := by
      rcases set_get e1 with ⟨rfl, _⟩ | ⟨_, z⟩
      · exact ⟨ds, e⟩
      · exact ⟨a, z⟩
    have f2 : ∃ a', ρ[k]? = some (some (.own a')) := by
      rcases set_get e2 with ⟨rfl, _⟩ | ⟨_, z⟩
      · exact ⟨ds, e⟩
      · exact ⟨b, z⟩
    obtain ⟨a', f1⟩ := f1
    obtain ⟨b', f2⟩ := f2
    exact R.inj j k a' b' q f1 f2 e3 e4
theorem Rs.ownNew {M0 : Addr → Prop} {H0 H H' : Hp} {σ : L2.St} {ρ : Rho} {i : Nat} {ds : List D} {p : Addr} {vs : List V} (R : Rs M0 H0 H σ ρ) (hi : i < ρ.length) (np : H p = none) (s : Same H H') (eH : H' p = some (.lst vs)) (l : vs.length ≤ sizeLine) (r : RpAll (Mi true M0 σ ρ p) H' vs ds) :
    Rs M0 H0 H' (σ.set i (some (.ref p))) (ρ.set i (some (.own ds))) ∧ Stp M0 σ ρ H (σ.set i (some (.ref p))) (ρ.set i (some (.own ds))) H' := by
  have mu : ∀ a, Mu true M0 (σ.set i (some (.ref p))) (ρ.set i (some (.own ds))) a → Mi true M0 σ ρ p a := fun a m => by
    rcases m with m | ⟨_, j, es', e1, e2⟩
    · exact .inl (.inl m)
    · rcases set_get e1 with ⟨rfl, _⟩ | ⟨n, e1⟩
      · rw [set_same (by rw [← R.len]; exact hi)] at e2
        cases e2
        exact .inr rfl
      · rw [set_other n] at e2
        exact .inl (.inr ⟨rfl, j, es', e1, e2⟩)
  have h0 : H0 p = none := by
    cases z : H0 p with
    | none => rfl
    | some o => rw [R.sm _ _ z] at np; cases np
  have re : ∀ a, Mu true M0 (σ.set i (some (.ref p))) (ρ.set i (some (.own ds))) a → Mu true M0 σ ρ a ∨ H a = none := fun a m => by
    rcases mu a m with m | rfl
    · exact .inl m
    · exact .inr np
  refine ⟨⟨R.sm.trans s, R.dom, by rw [List.length_set, List.length_set]; exact R.len, fun j d e1 => ?_, fun j es' e1 => ?_, fun j v e1 => ?_, fun j k a b q e1 e2 e3 e4 => ?_⟩, .of s, re⟩
  · rcases set_get e1 with ⟨_, z⟩ | ⟨n, e1⟩
    · cases z
    · obtain ⟨v, a, b⟩ := R.dat j d e1
      exact ⟨v, by rw [set_other n]; exact a, (b.reM re).mono (.of s)⟩
  · rcases set_get e1 with ⟨rfl, z⟩ | ⟨n, e1⟩
    · cases z
      exact ⟨p, vs, set_same (by rw [← R.len]; exact hi), eH, h0, l, r.reM fun a m => .inl (mu a m)⟩
    · obtain ⟨q, us, a, b, c, l', r'⟩ := R.own j es' e1
      exact ⟨q, us, by rw [set_other n]; exact a, s _ _ b, c, l', (r'.reM re).mono (.of s)⟩
  · rcases set_get e1 with ⟨_, z⟩ | ⟨n, e1⟩
    · cases z
    · rw [set_other n]; exact R.raw j v e1
  · have own : ∀ (m : Nat) (es : List D), ρ[m]? = some (some (.own es)) → σ[m]? = some (some (.ref q)) → q ≠ p := fun m es f1 f2 z => by
      obtain ⟨q', us, a, b, _⟩ := R.own m es f1
      rw [f2] at a
      cases a
      rw [z, np] at b
      cases b
    rcases set_get e1 with ⟨rfl, _⟩ | ⟨n1, f1⟩
    · rcases set_get e2 with ⟨rfl, _⟩ | ⟨n2, f2⟩
      · rfl
      · rw [set_same (by rw [← R.len]; exact hi)] at e3
        cases e3
        rw [set_other n2] at e4
        exact (own k b f2 e4 rfl).elim
    · rw [set_other n1] at e3
      rcases set_get e2 with ⟨rfl, _⟩ | ⟨n2, f2⟩
      · rw [set_same (by rw [← R.len]; exact hi)] at e4
        cases e4
        exact (own j a f1 e3 rfl).elim
      · rw [set_other n2] at e4
        exact R.inj j k a b q f1 f2 e3 e4
def sOwn (i : Nat) (f : EF) : Rho → Option Out := fun ρ => (f ρ).bind fun d => match d with
  | .list ds => if i < ρ.length then some (.nx (ρ.set i (some (.own ds)))) else none
  | _ => none
theorem dS_own {st : Stmt} {i : Nat} {f : EF} (h : PS X st (tAsg (tN f) (gName i))) : PS X st (tS (sOwn i f)) := h.wk fun Dn σ H q => by
  obtain ⟨M0, H0, ρ, o, R, e, q⟩ := tS_iff.mp q
  obtain ⟨d, ed, e⟩ := some_bind e
  cases d <;> try (cases e; done)
  obtain ⟨hi, rfl⟩ := iteS e
  refine ⟨M0, H0, ρ, _, R, ed, fun p vs H1 np s1 eH l r => ?_⟩
  obtain ⟨R1, s1⟩ := R.ownNew hi np s1 eH l r
  exact q _ _ R1 s1
theorem oE_lst {es : List Expr} {pos : Pos} {g : Rho → Option (List D)} (h : PA X es (tA true g)) : PE X (.List es pos) (tN (eLst g)) := (pe_lst h).wk fun σ H Q q => by
  obtain ⟨M0, H0, ρ, d, R, e, q⟩ := q
  obtain ⟨ds, ed, e⟩ := some_bind e
  obtain ⟨l, z⟩ := iteS e
  cases z
  refine ⟨M0, H0, ρ, _, R, ed, fun vs H1 s1 r1 => ⟨by rw [r1.len]; exact l, fun p np => q p vs _ ?_ (s1.trans (smN np)) upd_same (by rw [r1.len]; exact l) ((r1.reM fun a m => ?_).mono (.of (smN np)))⟩⟩
  · cases z : H p with
    | none => rfl
    | some o => rw [s1 _ _ z] at np; cases np
  · rcases m with m | rfl
    · exact .inl m
    · exact .inr np
def sApp (i : Nat) (f : Rho → Option (List D)) : Rho → Option Out := fun ρ => match ρ[i]? with
  | some (some (.own ds)) => (f ρ).bind fun es => match es with
    | [d] => if ds.length < sizeLine then some (.nx (ρ.set i (some (.own (ds ++ [d]))))) else none
    | _ => none
  | _ => none
theorem dS_app {st : Stmt} {i : Nat} {f : Rho → Option (List D)} (h : PS X st (tDrop (tBM K "list" rAppend (tVar i) (tA true f)))) : PS X st (tS (sApp i f)) := h.wk fun Dn σ H q => by
  obtain ⟨M0, H0, ρ, o, R, e, q⟩ := tS_iff.mp q
  unfold sApp at e
  split at e
  · rename_i ds z
    obtain ⟨es, ed, e⟩ := some_bind e
    obtain ⟨p, vs, a, b, c, l, r⟩ := R.own i ds z
    refine ⟨.ref p, a, .inl ⟨rfl, _, SqL.of b⟩, M0, H0, ρ, es, R, ed, fun us H1 s1 r1 => ?_⟩
    match es, r1, e with
    | [d], .cons r1 .nil, e =>
      obtain ⟨l2, rfl⟩ := iteS e
      have hl : vs.length < sizeLine := by rw [r.len]; exact l2
      refine ⟨p, vs, _, rfl, rfl, s1 _ _ b, hl, ?_⟩
      obtain ⟨R1, S1⟩ := (R.mono s1).ownSet z a (s1 _ _ b) (vs' := vs ++ [_]) (by rw [List.length_append]; exact hl) ((r.mono (.of s1)).app (.cons r1 .nil))
      exact q _ _ R1 ((Stp.of s1).trans S1)
  · cases e
end
/-! ### a def -/
def startR (n : Nat) (ds : List D) : Rho := ds.map (fun d => some (.dat d)) ++ List.replicate (n - ds.length) none
theorem RpAll.start {M : Addr → Prop} {H : Hp} {N : List Str} {vs : List V} {ds : List D} (dm : Dom M H) (r : RpAll M H vs ds) : Rs M H H (L2.start N vs) (startR N.length ds) := by
  have get : ∀ (i : Nat) (x : LV), (startR N.length ds)[i]? = some (some x) → ∃ d, ds[i]? = some d ∧ x = .dat d := fun i x e => by
    unfold startR at e
    rw [List.getElem?_append] at e
    split at e
    · rw [List.getElem?_map] at e
      cases z : ds[i]? with
      | none => rw [z] at e; cases e
      | some d => rw [z] at e; cases e; exact ⟨d, rfl, rfl⟩
    · rw [List.getElem?_replicate] at e
      split at e <;> cases e
  have mu : ∀ a, Mu true M (L2.start N vs) (startR N.length ds) a → M a ∨ H a = none := fun a m => by
    rcases m with m | ⟨_, j, es, e, _⟩
    · exact .inl m
    · obtain ⟨d, _, z⟩ := get j _ e
      cases z
  refine ⟨Same.refl _, dm, ?_, fun i d e => ?_, fun i es e => ?_, fun i v e => ?_, fun i j a b p e => ?_⟩
  · unfold startR L2.start
    simp [r.len]
  · obtain ⟨d', ed, z⟩ := get i _ e
    cases z
    obtain ⟨v, a, b⟩ := r.get ed
    refine ⟨v, ?_, b.reM mu⟩
    unfold L2.start
    rw [List.getElem?_append, if_pos (by rw [List.length_map]; exact (List.getElem?_eq_some_iff.mp a).1), List.getElem?_map, a]
    rfl
  · obtain ⟨d', _, z⟩ := get i _ e
    cases z
  · obtain ⟨d', _, z⟩ := get i _ e
    cases z
  · obtain ⟨d', _, z⟩ := get i _ e
    cases z
def Tells (o : Out) (d : D) : Prop := match o with
  | .rt e => e = d
  | .nx _ => d = .none
  | _ => False
theorem okFn {P : Program} {w : World} {K : PySem.W.Frag} {mg : Str → Option Value} {base : Heap} {x qual : Str} {st : Stmt} {f : Addr} {fd : FuncData} {N ps : List Str} {k n : Nat} {g : List D → Option D} (F : Fun K x qual st f fd) (S : FnScope N ps (defScope st)) (hn : n = ps.length)
    (walk : ∀ (cdv : Value) (A : Around) (outer : List Env) (s : Shared) (H : Hp) (E : XK), Room k (A.deeper (envOfC qual (defScope st) s.heap.objs.size f cdv)) →
      ∃ fS, PSs (cxOf CX0 P w K mg base N qual (defScope st) f cdv A outer s H E).nox (defBody st) (tS fS) ∧ ∀ ds d, ds.length = n → g ds = some d → ∃ o, fS (startR N.length ds) = some o ∧ Tells o d) :
    FnOk P w K mg base CX0 (k + 1) f fd ps (spD n g) := by
  refine F.ok S (fun vs H Q E h => ?_) (fun cdv A outer s H vs Q E hr h => ?_)
  · obtain ⟨M, ds, d, dm, r, l, _⟩ := h
    rw [r.len, l, hn]
  · obtain ⟨M, ds, d, dm, r, l, e, q⟩ := h
    obtain ⟨fS, hS, hw⟩ := walk cdv A outer s H E hr
    obtain ⟨o, eo, t⟩ := hw ds d l e
    refine ⟨_, hS, tS_iff.mpr ⟨M, H, _, o, r.start dm, eo, ?_⟩⟩
    cases o with
    | nx ρ' => cases t; exact fun σ' H' R s => q _ _ R.sm .non
    | rt d' => cases t; exact fun v H' s r => q v H' s r
    | bk ρ' => exact t.elim
    | ct ρ' => exact t.elim
end Dl
namespace Rt
open PySem PySem.Spec PyProof.Rows L2
/-! ### the drawn list: cells, the turn, the rests -/
structure Gd where
  d : Addr
  c : Addr
  r : Addr
  n : Nat
structure Dr (g : Gd) (t : Int) (H : Hp) : Prop where
  hd : ∃ a : Int, H g.d = some (.lst [.ref g.r, .ref g.c, .int a, .int t]) ∧ 0 ≤ a ∧ a < 2147483647
  hc : ∃ cs : List Int, H g.c = some (.lst (cs.map V.int)) ∧ cs.length ≤ 63
  hr : ∃ rs : List Int, H g.r = some (.lst (rs.map V.int)) ∧ rs.length ≤ 63
  dc : g.d ≠ g.c
  dr : g.d ≠ g.r
  cr : g.c ≠ g.r
  t0 : 0 ≤ t
/-- so many draws may still come -/
def Fu (g : Gd) (B : Nat) (H : Hp) : Prop := ∃ t : Int, Dr g t H ∧ t + B ≤ 10000000000000000000
/-- all but the drawn list's own things is as it was -/
def Kp (g : Gd) (H H' : Hp) : Prop := ∀ p o, p ≠ g.d → p ≠ g.r → H p = some o → H' p = some o
/-- tuples are as they were -/
def Tk (H H' : Hp) : Prop := ∀ p xs, H p = some (.tup xs) → H' p = some (.tup xs)
structure Gd.Off (g : Gd) (p : Addr) : Prop where
  d : p ≠ g.d
  c : p ≠ g.c
  r : p ≠ g.r
theorem Kp.refl (g : Gd) (H : Hp) : Kp g H H := fun _ _ _ _ h => h
theorem Kp.trans {g : Gd} {H H1 H2 : Hp} (a : Kp g H H1) (b : Kp g H1 H2) : Kp g H H2 := fun p o h1 h2 h => b p o h1 h2 (a p o h1 h2 h)
theorem Kp.new {g : Gd} {H : Hp} {p : Addr} {o : HO} (h : H p = none) : Kp g H (upd H p o) := fun q u _ _ e => by
  rw [upd_ne (ne_of_none e h)]
  exact e
/-- what H does not know may change -/
theorem Kp.mut {g : Gd} {H H' : Hp} {p : Addr} {o : HO} (e : Kp g H H') (h : H p = none) : Kp g H (upd H' p o) := fun a u h1 h2 ha => by
  rw [upd_ne (ne_of_none ha h)]
  exact e a u h1 h2 ha
theorem Kp.off {g : Gd} {H H' : Hp} {p : Addr} {o : HO} (a : Kp g H H') (f : g.Off p) (h : H p = some o) : H' p = some o := a p o f.d f.r h
theorem Tk.refl (H : Hp) : Tk H H := fun _ _ h => h
theorem Tk.trans {H H1 H2 : Hp} (a : Tk H H1) (b : Tk H1 H2) : Tk H H2 := fun p xs h => b p xs (a p xs h)
theorem Tk.new {H : Hp} {p : Addr} {o : HO} (h : H p = none) : Tk H (upd H p o) := fun q u e => by
  rw [upd_ne (ne_of_none e h)]
  exact e
theorem Tk.lst {H : Hp} {p : Addr} {xs ys : List V} (h : H p = some (.lst xs)) : Tk H (upd H p (.lst ys)) := fun q u e => by
  rw [upd_ne (fun z => by rw [z, h] at e; cases e)]
  exact e
theorem Fu.mono {g : Gd} {B B' : Nat} {H : Hp} (h : Fu g B H) (e : B' ≤ B) : Fu g B' H := by
  obtain ⟨t, a, b⟩ := h
  exact ⟨t, a, by omega⟩
theorem Fu.tk {g : Gd} {B : Nat} {H H' : Hp} (h : Fu g B H) (k : Kp g H H') : Tk H H' := fun p xs e => by
  obtain ⟨t, a, b⟩ := h
  obtain ⟨sd, hd, _⟩ := a.hd
  obtain ⟨rs, hr, _⟩ := a.hr
  exact k p _ (fun z => by rw [z, hd] at e; cases e) (fun z => by rw [z, hr] at e; cases e) e
theorem Fu.off {g : Gd} {B : Nat} {H : Hp} {p : Addr} (h : Fu g B H) (e : H p = none) : g.Off p := by
  obtain ⟨t, a, b⟩ := h
  obtain ⟨sd, hd, _⟩ := a.hd
  obtain ⟨rs, hr, _⟩ := a.hr
  obtain ⟨cs, hc, _⟩ := a.hc
  exact ⟨fun z => (by rw [z, hd] at e; cases e), fun z => (by rw [z, hc] at e; cases e), fun z => (by rw [z, hr] at e; cases e)⟩
theorem Fu.upd {g : Gd} {B : Nat} {H : Hp} {p : Addr} {o : HO} (h : Fu g B H) (f : g.Off p) : Fu g B (L2.upd H p o) := by
  obtain ⟨t, a, b⟩ := h
  obtain ⟨sd, hd, ed⟩ := a.hd
  obtain ⟨cs, hc, ec⟩ := a.hc
  obtain ⟨rs, hr, er⟩ := a.hr
  refine ⟨t, ⟨⟨sd, ?_, ed⟩, ⟨cs, ?_, ec⟩, ⟨rs, ?_, er⟩, a.dc, a.dr, a.cr, a.t0⟩, b⟩
  · rw [upd_ne f.d.symm]; exact hd
  · rw [upd_ne f.c.symm]; exact hc
  · rw [upd_ne f.r.symm]; exact hr
theorem Fu.new {g : Gd} {B : Nat} {H : Hp} {p : Addr} {o : HO} (h : Fu g B H) (e : H p = none) : Fu g B (L2.upd H p o) := h.upd (h.off e)
/-! ### comprehensions that draw -/
theorem lcR {g : Gd} {lo : Int} {n : Nat} {gt : TG} {tt : TT} {te : TE} {vs : List Nat} {σ : L2.St} {H1 : Hp} {D : Addr} {Qd : Hp → Prop} {B : Nat} (c : Nat) (Pt : Hp → V → Prop) (Pl : Nat → List V → Prop) (hD : H1 D = none) (hF : Fu g B H1) (hn : n ≤ 1000) (hB : n * c ≤ B)
    (mono : ∀ H H' x, Tk H H' → Pt H x → Pt H' x) (p0 : Pl 0 [])
    (hs : ∀ i H (B' : Nat), i < n → Fu g B' H → c ≤ B' → Kp g H1 H → ∀ (Qk : VK) (Qs : Hp → Prop),
      (∀ y H', Fu g (B' - c) H' → Kp g H H' → Pt H' y → (∀ acc, Pl i acc → Pl (i + 1) (acc ++ [y])) → Qk y H') → (∀ H', Fu g (B' - c) H' → Kp g H H' → (∀ acc, Pl i acc → Pl (i + 1) acc) → Qs H') →
      gt (.int (lo + i)) (wipe σ vs) H fun σ2 H2 => wipe σ2 vs = wipe σ vs ∧ tt σ2 H2 fun b H3 => if b = true then te σ2 H3 Qk else Qs H3)
    (hd : ∀ H acc, Fu g (B - n * c) H → Kp g H1 H → H D = some (.lst acc) → acc.length ≤ n → Pl n acc → (∀ x ∈ acc, Pt H x) → Qd H) :
    ∃ W : Nat → Nat → Hp → Prop, (∃ m, W 0 m (upd H1 D (.lst []))) ∧ ∀ i m H, W i m H →
      ((Itr lo n).stop i H ∧ Qd H) ∨ ((Itr lo n).go i H ∧ ∃ Nx : Hp → Prop, (∀ H', Nx H' → ∃ m', m' < m ∧ W (i + 1) m' H') ∧ ∀ x H', (Itr lo n).yld i H x H' → gt x (wipe σ vs) H' fun σ2 H2 => wipe σ2 vs = wipe σ vs ∧ tt σ2 H2 fun b H3 =>
        if b = true then te σ2 H3 fun y H4 => ∃ acc, H4 D = some (.lst acc) ∧ acc.length < sizeLine ∧ Nx (upd H4 D (.lst (acc ++ [y]))) else Nx H3) := by
  have oD := hF.off hD
  refine lc_range (Pv := fun i H => i ≤ n ∧ ∃ B', B' + i * c = B ∧ Fu g B' H ∧ Kp g H1 H ∧ ∃ acc, H D = some (.lst acc) ∧ acc.length ≤ i ∧ Pl i acc ∧ ∀ x ∈ acc, Pt H x) ⟨Nat.zero_le _, B, by omega, hF.upd oD, Kp.new hD, [], upd_same, Nat.le_refl _, p0, fun x h => nomatch h⟩ (fun i H hi p => ?_) (fun H p => ?_)
  · obtain ⟨_, B', eB, f, k, acc, eD, el, pl, al⟩ := p
    have h1 : (i + 1) * c ≤ n * c := Nat.mul_le_mul_right c hi
    have h2 : (i + 1) * c = i * c + c := Nat.succ_mul i c
    refine hs i H B' hi f (by omega) k _ _ (fun y H' f' k' py ply => ?_) (fun H' f' k' ply => ?_)
    · have eD' := k'.off oD eD
      refine ⟨acc, eD', szl (by omega), hi, B' - c, by omega, f'.upd oD, (k.trans k').mut hD, acc ++ [y], upd_same, by rw [List.length_append]; simp; omega, ply acc pl, fun x hx => ?_⟩
      rcases List.mem_append.mp hx with hx | hx
      · exact mono _ _ _ (Tk.lst eD') (mono _ _ _ (f.tk k') (al x hx))
      · have e : x = y := by simpa using hx
        subst e
        exact mono _ _ _ (Tk.lst eD') py
    · exact ⟨hi, B' - c, by omega, f', k.trans k', acc, k'.off oD eD, by omega, ply acc pl, fun x hx => mono _ _ _ (f.tk k') (al x hx)⟩
  · obtain ⟨_, B', eB, f, k, acc, eD, el, pl, al⟩ := p
    exact hd H acc (f.mono (by omega)) k eD el pl al
theorem lcT {K : PySem.W.Frag} {a : Addr} {xs : List V} {g : Gd} {gt : TG} {tt : TT} {te : TE} {vs : List Nat} {σ : L2.St} {H1 : Hp} {D : Addr} {Qd : Hp → Prop} {B : Nat} (c : Nat) (Pt : Hp → V → Prop) (Pl : Nat → List V → Prop) (hD : H1 D = none) (hF : Fu g B H1) (hn : xs.length ≤ 1000) (hB : xs.length * c ≤ B)
    (hx : ∀ H, Kp g H1 H → SqT K H a xs) (mono : ∀ H H' x, Tk H H' → Pt H x → Pt H' x) (p0 : Pl 0 [])
    (hs : ∀ i x H (B' : Nat), xs[i]? = some x → Fu g B' H → c ≤ B' → Kp g H1 H → ∀ (Qk : VK) (Qs : Hp → Prop),
      (∀ y H', Fu g (B' - c) H' → Kp g H H' → Pt H' y → (∀ acc, Pl i acc → Pl (i + 1) (acc ++ [y])) → Qk y H') → (∀ H', Fu g (B' - c) H' → Kp g H H' → (∀ acc, Pl i acc → Pl (i + 1) acc) → Qs H') →
      gt x (wipe σ vs) H fun σ2 H2 => wipe σ2 vs = wipe σ vs ∧ tt σ2 H2 fun b H3 => if b = true then te σ2 H3 Qk else Qs H3)
    (hd : ∀ H acc, Fu g (B - xs.length * c) H → Kp g H1 H → H D = some (.lst acc) → acc.length ≤ xs.length → Pl xs.length acc → (∀ x ∈ acc, Pt H x) → Qd H) :
    ∃ W : Nat → Nat → Hp → Prop, (∃ m, W 0 m (upd H1 D (.lst []))) ∧ ∀ i m H, W i m H →
      ((Itt K a).stop i H ∧ Qd H) ∨ ((Itt K a).go i H ∧ ∃ Nx : Hp → Prop, (∀ H', Nx H' → ∃ m', m' < m ∧ W (i + 1) m' H') ∧ ∀ x H', (Itt K a).yld i H x H' → gt x (wipe σ vs) H' fun σ2 H2 => wipe σ2 vs = wipe σ vs ∧ tt σ2 H2 fun b H3 =>
        if b = true then te σ2 H3 fun y H4 => ∃ acc, H4 D = some (.lst acc) ∧ acc.length < sizeLine ∧ Nx (upd H4 D (.lst (acc ++ [y]))) else Nx H3) := by
  have oD := hF.off hD
  refine lc_tup (xs := xs) (Pv := fun i H => i ≤ xs.length ∧ ∃ B', B' + i * c = B ∧ Fu g B' H ∧ Kp g H1 H ∧ ∃ acc, H D = some (.lst acc) ∧ acc.length ≤ i ∧ Pl i acc ∧ ∀ x ∈ acc, Pt H x) ⟨Nat.zero_le _, B, by omega, hF.upd oD, Kp.new hD, [], upd_same, Nat.le_refl _, p0, fun x h => nomatch h⟩ (fun i H _ p => ?_) (fun i x H hi p => ?_) (fun H p => ?_)
  · obtain ⟨_, B', eB, f, k, acc, eD, el, pl, al⟩ := p
    exact hx H k
  · obtain ⟨_, B', eB, f, k, acc, eD, el, pl, al⟩ := p
    have hi' : i < xs.length := (List.getElem?_eq_some_iff.mp hi).1
    have h1 : (i + 1) * c ≤ xs.length * c := Nat.mul_le_mul_right c hi'
    have h2 : (i + 1) * c = i * c + c := Nat.succ_mul i c
    refine hs i x H B' hi f (by omega) k _ _ (fun y H' f' k' py ply => ?_) (fun H' f' k' ply => ?_)
    · have eD' := k'.off oD eD
      refine ⟨acc, eD', szl (by omega), hi', B' - c, by omega, f'.upd oD, (k.trans k').mut hD, acc ++ [y], upd_same, by rw [List.length_append]; simp; omega, ply acc pl, fun x hx => ?_⟩
      rcases List.mem_append.mp hx with hx | hx
      · exact mono _ _ _ (Tk.lst eD') (mono _ _ _ (f.tk k') (al x hx))
      · have e : x = y := by simpa using hx
        subst e
        exact mono _ _ _ (Tk.lst eD') py
    · exact ⟨hi', B' - c, by omega, f', k.trans k', acc, k'.off oD eD, by omega, ply acc pl, fun x hx => mono _ _ _ (f.tk k') (al x hx)⟩
  · obtain ⟨_, B', eB, f, k, acc, eD, el, pl, al⟩ := p
    exact hd H acc (f.mono (by omega)) k eD el pl al
end Rt
namespace Rt
open PySem PySem.Spec PyProof.Rows L2
theorem Fu.loc {g : Gd} {b : Nat} {H H' : Hp} (i : Fu g b H) (h1 : H' g.d = H g.d) (h2 : H' g.c = H g.c) (h3 : H' g.r = H g.r) : Fu g b H' := by
  obtain ⟨t, a, l⟩ := i
  obtain ⟨sd, hd, ed⟩ := a.hd
  obtain ⟨cs, hc, ec⟩ := a.hc
  obtain ⟨rs, hr, er⟩ := a.hr
  exact ⟨t, ⟨⟨sd, by rw [h1]; exact hd, ed⟩, ⟨cs, by rw [h2]; exact hc, ec⟩, ⟨rs, by rw [h3]; exact hr, er⟩, a.dc, a.dr, a.cr, a.t0⟩, l⟩
end Rt
namespace Dl
open PySem PySem.Spec PyProof.Rows L2 Rt
/-! ### what is drawn from: a thing with a store of draws -/
abbrev Pl := Rt.Gd
def _root_.Rt.Gd.h (g : Rt.Gd) : V := .ref g.d
def _root_.Rt.Gd.own (g : Rt.Gd) (p : Addr) : Prop := p = g.d ∨ p = g.c ∨ p = g.r
def _root_.Rt.Gd.inv (g : Rt.Gd) (b : Nat) (H : Hp) : Prop := Fu g b H
theorem _root_.Rt.Gd.alive (g : Rt.Gd) {b : Nat} {H : Hp} {p : Addr} (i : g.inv b H) (o : g.own p) : H p ≠ none := fun e => by
  have f := Fu.off i e
  rcases o with o | o | o
  · exact f.d o
  · exact f.c o
  · exact f.r o
theorem _root_.Rt.Gd.loc (g : Rt.Gd) {b : Nat} {H H' : Hp} (i : g.inv b H) (h : ∀ p, g.own p → H' p = H p) : g.inv b H' := Fu.loc i (h _ (.inl rfl)) (h _ (.inr (.inl rfl))) (h _ (.inr (.inr rfl)))
theorem Pl.same {g : Pl} {b : Nat} {H H' : Hp} (i : g.inv b H) (s : Same H H') : g.inv b H' := g.loc i fun p o => by
  cases e : H p with
  | none => exact (g.alive i o e).elim
  | some u => exact s p u e
/-- readings that draw -/
structure WP (α : Type) where
  w : Rho → Nat → (α → Nat → Prop) → Prop
  m : ∀ {ρ b P Q}, (∀ a b', P a b' → Q a b') → w ρ b P → w ρ b Q
structure Rn (g : Pl) (M0 : Addr → Prop) (H0 H : Hp) (σ : L2.St) (ρ : Rho) (b : Nat) : Prop where
  kp : KpM g.own H0 H
  dom0 : Dom M0 H0
  dom : Dom M0 H
  pl : ∀ p, g.own p → M0 p
  iv : g.inv b H
  len : ρ.length = σ.length
  dat : ∀ (i : Nat) (d : D), ρ[i]? = some (some (.dat d)) → ∃ v, σ[i]? = some (some v) ∧ Rp (Mu true M0 σ ρ) H v d
  own : ∀ (i : Nat) (ds : List D), ρ[i]? = some (some (.own ds)) → ∃ p vs, σ[i]? = some (some (.ref p)) ∧ H p = some (.lst vs) ∧ H0 p = none ∧ vs.length ≤ sizeLine ∧ RpAll (Mu true M0 σ ρ) H vs ds
  raw : ∀ (i : Nat) (v : V), ρ[i]? = some (some (.raw v)) → σ[i]? = some (some v)
  pool : ∀ (i : Nat), ρ[i]? = some (some .pool) → σ[i]? = some (some g.h)
  inj : ∀ (i j : Nat) (a b : List D) (p : Addr), ρ[i]? = some (some (.own a)) → ρ[j]? = some (some (.own b)) → σ[i]? = some (some (.ref p)) → σ[j]? = some (some (.ref p)) → i = j
theorem Rn.up {g : Pl} {M0 : Addr → Prop} {H0 H : Hp} {σ : L2.St} {ρ : Rho} {b : Nat} (R : Rn g M0 H0 H σ ρ b) {H' : Hp} {b' : Nat} (k : KpM g.own H H') (iv : g.inv b' H') : Rn g M0 H0 H' σ ρ b' where
  kp := fun p o n e => k p o n (R.kp p o n e)
  dom0 := R.dom0
  dom := fun p m e => by
    by_cases o : g.own p
    · exact g.alive iv o e
    · cases z : H p with
      | none => exact R.dom p m z
      | some u => rw [k p u o z] at e; cases e
  pl := R.pl
  iv := iv
  len := R.len
  dat := fun i d e => by
    obtain ⟨v, a, c⟩ := R.dat i d e
    exact ⟨v, a, c.mono fun p o n e => k p o (fun z => n (.inl (R.pl p z))) e⟩
  own := fun i ds e => by
    obtain ⟨p, vs, a, c, z, l, r⟩ := R.own i ds e
    exact ⟨p, vs, a, k p _ (fun o => R.dom0 p (R.pl p o) z) c, z, l, r.mono fun p o n e => k p o (fun z => n (.inl (R.pl p z))) e⟩
  raw := R.raw
  pool := R.pool
  inj := R.inj
theorem Rn.mono {g : Pl} {M0 : Addr → Prop} {H0 H : Hp} {σ : L2.St} {ρ : Rho} {b : Nat} (R : Rn g M0 H0 H σ ρ b) {H' : Hp} (s : Same H H') : Rn g M0 H0 H' σ ρ b := R.up (.of s) (Pl.same R.iv s)
theorem Rn.domu {g : Pl} {M0 : Addr → Prop} {H0 H : Hp} {σ : L2.St} {ρ : Rho} {b : Nat} (R : Rn g M0 H0 H σ ρ b) (μ : Bool) : Dom (Mu μ M0 σ ρ) H := fun p m e => by
  rcases m with m | ⟨_, i, ds, e1, e2⟩
  · exact R.dom p m e
  · obtain ⟨q, vs, a, b, _⟩ := R.own i ds e1
    rw [e2] at a
    cases a
    rw [b] at e
    cases e
theorem KpM.tr {M : Addr → Prop} {H H1 H2 : Hp} (a : KpM M H H1) (b : KpM M H1 H2) : KpM M H H2 := fun p o n e => b p o n (a p o n e)
/-- the slots as a reading without draws sees them -/
theorem shut_nown {μ : Bool} {ρ : Rho} {i : Nat} {ds : List D} (e : (shutR μ ρ)[i]? = some (some (.own ds))) : False := by
  rcases seal_get e with ⟨_, z⟩ | ⟨_, _, _, z⟩
  · exact z ds rfl
  · cases z
theorem Rn.rs {g : Pl} {M0 : Addr → Prop} {H0 H : Hp} {σ : L2.St} {ρ : Rho} {b : Nat} (R : Rn g M0 H0 H σ ρ b) (μ : Bool) : Rs (Mu μ M0 σ ρ) H H σ (shutR μ ρ) := by
  have no : ∀ a, Mu true (Mu μ M0 σ ρ) σ (shutR μ ρ) a → Mu μ M0 σ ρ a := fun a m => by
    rcases m with m | ⟨_, i, ds, e, _⟩
    · exact m
    · exact (shut_nown e).elim
  refine ⟨Same.refl _, R.domu μ, by unfold shutR; rw [List.length_map]; exact R.len, fun i d e => ?_, fun i ds e => (shut_nown e).elim, fun i v e => ?_, fun i j a b p e => (shut_nown e).elim⟩
  · rcases seal_get e with ⟨e8, _⟩ | ⟨rfl, ds, e8, z9⟩
    · obtain ⟨v, a, c⟩ := R.dat i d e8
      exact ⟨v, a, c.reM fun a m => Mu.up a (no a m)⟩
    · cases z9
      obtain ⟨p, vs, a, c, z, l, r⟩ := R.own i ds e8
      refine ⟨.ref p, a, .lst c (fun m => ?_) l (r.reM fun a m => Mu.up a (no a m))⟩
      rcases no p m with m | ⟨z, _⟩
      · exact R.dom0 p m z
      · cases z
  · rcases seal_get e with ⟨e8, _⟩ | ⟨_, _, _, z9⟩
    · exact R.raw i v e8
    · cases z9
def tn (f : WP D) : TE := fun σ H Q => ∃ g M0 H0 ρ b, Rn g M0 H0 H σ ρ b ∧ f.w ρ b fun d b' => ∀ v H', KpM g.own H H' → g.inv b' H' → Rp (Mu true M0 σ ρ) H' v d → Q v H'
def tnA (f : WP (List D)) : TA := fun σ H Q => ∃ g M0 H0 ρ b, Rn g M0 H0 H σ ρ b ∧ f.w ρ b fun ds b' => ∀ vs H', KpM g.own H H' → g.inv b' H' → RpAll (Mu true M0 σ ρ) H' vs ds → Q vs H'
def tnT (f : WP Bool) : TT := fun σ H Q => ∃ g M0 H0 ρ b, Rn g M0 H0 H σ ρ b ∧ f.w ρ b fun k b' => ∀ H', KpM g.own H H' → g.inv b' H' → Q k H'
/-! readings -/
def wP {α : Type} (f : Rho → Option α) : WP α := ⟨fun ρ b Q => ∃ d, f (shutR true ρ) = some d ∧ Q d b, fun h ⟨d, e, q⟩ => ⟨d, e, h _ _ q⟩⟩
def wB {α β : Type} (f : WP α) (g : α → Option β) : WP β := ⟨fun ρ b Q => f.w ρ b fun a b' => ∃ d, g a = some d ∧ Q d b', fun h z => f.m (fun a b' ⟨d, e, q⟩ => ⟨d, e, h _ _ q⟩) z⟩
def w2 {α β γ : Type} (f : WP α) (g : WP β) (h : α → β → Option γ) : WP γ := ⟨fun ρ b Q => f.w ρ b fun a b1 => g.w ρ b1 fun c b2 => ∃ d, h a c = some d ∧ Q d b2, fun k z => f.m (fun a b' y => g.m (fun c b2 ⟨d, e, q⟩ => ⟨d, e, k _ _ q⟩) y) z⟩
section
variable {X : Cx} {K : PySem.W.Frag}
theorem nE_pure {e : Expr} {f : EF} (h : PE X e (tD true f)) : PE X e (tn (wP f)) := h.wk fun σ H Q q => by
  obtain ⟨g, M0, H0, ρ, b, R, d, e, q⟩ := q
  exact ⟨_, H, _, d, R.rs true, e, fun v H1 s1 r1 => q v H1 (.of s1) (Pl.same R.iv s1) (r1.reM fun a m => .inl (.inl m))⟩
def wL (f : EF) : WP D := ⟨fun ρ b Q => ∃ d, f (shutR false ρ) = some d ∧ nl d = true ∧ Q d b, fun h ⟨d, e, n, q⟩ => ⟨d, e, n, h _ _ q⟩⟩
theorem nE_loose {e : Expr} {f : EF} {μ : Bool} (h : PE X e (tD μ f)) : PE X e (tn (wL f)) := h.wk fun σ H Q q => by
  obtain ⟨g, M0, H0, ρ, b, R, d, e, n, q⟩ := q
  refine ⟨_, H, _, d, R.rs false, e, fun v H1 s1 r1 => q v H1 (.of s1) (Pl.same R.iv s1) ((r1.reM (M' := M0) fun a m => .inl (.inl (.inl m))).nl n fun a m => ?_)⟩
  rcases m with m | ⟨_, i, ds, e1, e2⟩
  · exact .inl m
  · obtain ⟨p, vs, x, y, _⟩ := (R.mono s1).own i ds e1
    rw [e2] at x
    cases x
    exact .inr ⟨_, y⟩
theorem nT_pure {e : Expr} {f : Rho → Option Bool} (h : PT X e (tT f)) : PT X e (tnT (wP f)) := h.wk fun σ H Q q => by
  obtain ⟨g, M0, H0, ρ, b, R, d, e, q⟩ := q
  exact ⟨_, H, _, d, R.rs true, e, fun H1 s1 => q H1 (.of s1) (Pl.same R.iv s1)⟩
def wTL (f : Rho → Option Bool) : WP Bool := ⟨fun ρ b Q => ∃ d, f (shutR false ρ) = some d ∧ Q d b, fun h ⟨d, e, q⟩ => ⟨d, e, h _ _ q⟩⟩
theorem nT_loose {e : Expr} {f : Rho → Option Bool} (h : PT X e (tT f)) : PT X e (tnT (wTL f)) := h.wk fun σ H Q q => by
  obtain ⟨g, M0, H0, ρ, b, R, d, e, q⟩ := q
  exact ⟨_, H, _, d, R.rs false, e, fun H1 s1 => q H1 (.of s1) (Pl.same R.iv s1)⟩
theorem nOp2 {g : D → D → Option D} {f1 f2 : WP D} {σ : L2.St} {H : Hp} {Q : VK} (q : tn (w2 f1 f2 g) σ H Q) : tOp (rD g) (tn f1) (tn f2) σ H Q := by
  obtain ⟨p, M0, H0, ρ, b, R, q⟩ := q
  refine ⟨p, M0, H0, ρ, b, R, f1.m (fun a b1 q x H1 k1 i1 r1 => ?_) q⟩
  refine ⟨p, M0, H0, ρ, b1, R.up k1 i1, f2.m (fun c b2 ⟨d, e, q⟩ y H2 k2 i2 r2 => ?_) q⟩
  exact ⟨_, a, c, d, ((R.up k1 i1).up k2 i2).domu true, r1.mono fun p o n e => k2 p o (fun z => n (.inl (R.pl p z))) e, r2, e, fun v H3 s3 r3 => q v H3 ((k1.tr k2).tr (.of s3)) (Pl.same i2 s3) r3⟩
theorem nE_op {a b : Expr} {op : Operator} {pos : Pos} {g : D → D → Option D} {f1 f2 : WP D} (o : OpR X (binaryOp op) (rD g)) (ha : PE X a (tn f1)) (hb : PE X b (tn f2)) : PE X (.BinOp a op b pos) (tn (w2 f1 f2 g)) := (pe_op o ha hb).wk fun _ _ _ q => nOp2 q
theorem nE_cmp {a b : Expr} {op : CmpOp} {pos : Pos} {g : D → D → Option D} {f1 f2 : WP D} (o : OpR X (compareOp op) (rD g)) (ha : PE X a (tn f1)) (hb : PE X b (tn f2)) (hm : behindInMarks op b = false) : PE X (.Compare a [op] [b] pos) (tn (w2 f1 f2 g)) := (pe_cmpR o ha hb hm).wk fun _ _ _ q => nOp2 q
theorem nE_ix {a b : Expr} {pos : Pos} {f1 f2 : WP D} (ha : PE X a (tn f1)) (hb : PE X b (tn f2)) (hp : PlainIx b := by exact fun _ _ => rfl) : PE X (.Subscript a b pos) (tn (w2 f1 f2 ixD)) := (pe_ix i_ix ha hb hp).wk fun _ _ _ q => nOp2 q
theorem nTest {f : WP D} {σ : L2.St} {H : Hp} {Q : Bool → Hp → Prop} (q : tnT (wB f bB) σ H Q) : tn f σ H (fun x H1 => ∃ c, x = V.bl c ∧ Q c H1) := by
  obtain ⟨p, M0, H0, ρ, b, R, q⟩ := q
  exact ⟨p, M0, H0, ρ, b, R, f.m (fun d b1 ⟨c, e, q⟩ v H1 k1 i1 r1 => ⟨c, r1.ofB e, q H1 k1 i1⟩) q⟩
theorem nT_cmp {a b : Expr} {op : CmpOp} {pos : Pos} {g : D → D → Option D} {f1 f2 : WP D} (o : OpR X (compareOp op) (rD g)) (ha : PE X a (tn f1)) (hb : PE X b (tn f2)) (hm : behindInMarks op b = false) : PT X (.Compare a [op] [b] pos) (tnT (wB (w2 f1 f2 g) bB)) := (pt_cmpR o ha hb hm).wk fun σ H Q q => nOp2 (nTest q)
theorem nT_val {e : Expr} {f : WP D} (h : PE X e (tn f)) (ht : ∀ (whole : Sem Value), PySem.isTrue e X.env whole = (do
          let v ← whole
          standAt e.pos
          holding [v] (truthy v)) := by intro _; rfl) : PT X e (tnT (wB f bB)) := (pt_val h ht).wk fun σ H Q q => nTest q
def wNot (f : WP Bool) : WP Bool := wB f fun b => some (!b)
theorem nT_not {a : Expr} {pos : Pos} {f : WP Bool} (h : PT X a (tnT f)) : PT X (.UnaryOp .Not a pos) (tnT (wNot f)) := (pt_not h).wk fun σ H Q q => by
  obtain ⟨p, M0, H0, ρ, b, R, q⟩ := q
  exact ⟨p, M0, H0, ρ, b, R, f.m (fun c b1 ⟨d, e, q⟩ H1 k1 i1 => by cases e; exact q H1 k1 i1) q⟩
def wAnd (f g : WP Bool) : WP Bool := ⟨fun ρ b Q => f.w ρ b fun c b1 => if c = true then g.w ρ b1 Q else Q false b1, fun h z => f.m (fun c b1 y => by
  cases c with
  | true => exact g.m h y
  | false => exact h _ _ y) z⟩
def wOr (f g : WP Bool) : WP Bool := ⟨fun ρ b Q => f.w ρ b fun c b1 => if c = true then Q true b1 else g.w ρ b1 Q, fun h z => f.m (fun c b1 y => by
  cases c with
  | true => exact h _ _ y
  | false => exact g.m h y) z⟩
theorem nW_and1 {a : Expr} {pos : Pos} {f : WP Bool} (h : PT X a (tnT f)) : PW X (.BoolOp .And [a] pos) (tnT f) := pw_and1 h
theorem nW_or1 {a : Expr} {pos : Pos} {f : WP Bool} (h : PT X a (tnT f)) : PW X (.BoolOp .Or [a] pos) (tnT f) := pw_or1 h
theorem nW_and {a b : Expr} {rest : List Expr} {pos : Pos} {f g : WP Bool} (ha : PT X a (tnT f)) (hb : PW X (.BoolOp .And (b :: rest) pos) (tnT g)) : PW X (.BoolOp .And (a :: b :: rest) pos) (tnT (wAnd f g)) := (pw_and ha hb).wk fun σ H Q q => by
  obtain ⟨p, M0, H0, ρ, b, R, q⟩ := q
  refine ⟨p, M0, H0, ρ, b, R, f.m (fun c b1 q H1 k1 i1 => ?_) q⟩
  cases c with
  | true => exact ⟨p, M0, H0, ρ, b1, R.up k1 i1, g.m (fun d b2 q H2 k2 i2 => q H2 (k1.tr k2) i2) q⟩
  | false => exact q H1 k1 i1
theorem nW_or {a b : Expr} {rest : List Expr} {pos : Pos} {f g : WP Bool} (ha : PT X a (tnT f)) (hb : PW X (.BoolOp .Or (b :: rest) pos) (tnT g)) : PW X (.BoolOp .Or (a :: b :: rest) pos) (tnT (wOr f g)) := (pw_or ha hb).wk fun σ H Q q => by
  obtain ⟨p, M0, H0, ρ, b, R, q⟩ := q
  refine ⟨p, M0, H0, ρ, b, R, f.m (fun c b1 q H1 k1 i1 => ?_) q⟩
  cases c with
  | true => exact q H1 k1 i1
  | false => exact ⟨p, M0, H0, ρ, b1, R.up k1 i1, g.m (fun d b2 q H2 k2 i2 => q H2 (k1.tr k2) i2) q⟩
def wIf {α : Type} (c : WP Bool) (f g : WP α) : WP α := ⟨fun ρ b Q => c.w ρ b fun k b1 => if k = true then f.w ρ b1 Q else g.w ρ b1 Q, fun h z => c.m (fun k b1 y => by
  cases k with
  | true => exact f.m h y
  | false => exact g.m h y) z⟩
theorem nE_if {a b c : Expr} {pos : Pos} {t : WP Bool} {f g : WP D} (hc : PT X c (tnT t)) (ha : PE X a (tn f)) (hb : PE X b (tn g)) : PE X (c.IfExp a b pos) (tn (wIf t f g)) := (pe_ifExp hc ha hb).wk fun σ H Q q => by
  obtain ⟨p, M0, H0, ρ, b, R, q⟩ := q
  refine ⟨p, M0, H0, ρ, b, R, t.m (fun k b1 q H1 k1 i1 => ?_) q⟩
  cases k with
  | true => exact ⟨p, M0, H0, ρ, b1, R.up k1 i1, f.m (fun d b2 q v H2 k2 i2 r2 => q v H2 (k1.tr k2) i2 r2) q⟩
  | false => exact ⟨p, M0, H0, ρ, b1, R.up k1 i1, g.m (fun d b2 q v H2 k2 i2 r2 => q v H2 (k1.tr k2) i2 r2) q⟩
def wNil : WP (List D) := ⟨fun _ b Q => Q [] b, fun h z => h _ _ z⟩
def wCons (f : WP D) (g : WP (List D)) : WP (List D) := w2 f g fun d ds => some (d :: ds)
theorem nA_nil : PA X [] (tnA wNil) := PA.weak pa_nil fun σ H Q q => by
  obtain ⟨p, M0, H0, ρ, b, R, q⟩ := q
  exact ⟨Q, q [] H .refl R.iv .nil, fun _ _ z => z⟩
theorem nA_cons {e : Expr} {es : List Expr} {f : WP D} {g : WP (List D)} (h : PE X e (tn f)) (hs : PA X es (tnA g)) (he : starEach (e :: es) X.env = (false, eval e X.env) :: starEach es X.env := by rfl) : PA X (e :: es) (tnA (wCons f g)) := PA.weak (pa_cons h hs he) fun σ H Q q => by
  obtain ⟨p, M0, H0, ρ, b, R, q⟩ := q
  refine ⟨Q, ⟨p, M0, H0, ρ, b, R, f.m (fun a b1 q x H1 k1 i1 r1 => ?_) q⟩, fun _ _ z => z⟩
  refine ⟨p, M0, H0, ρ, b1, R.up k1 i1, g.m (fun c b2 ⟨d, e, q⟩ y H2 k2 i2 r2 => ?_) q⟩
  cases e
  exact q _ H2 (k1.tr k2) i2 (.cons (r1.mono fun p o n e => k2 p o (fun z => n (.inl (R.pl p z))) e) r2)
def tupO (ds : List D) : Option D := if ds.length ≤ sizeLine then some (.tuple ds) else none
def lstO (ds : List D) : Option D := if ds.length ≤ sizeLine then some (.list ds) else none
theorem nE_tup {es : List Expr} {x1 : Nat} {pos : Pos} {g : WP (List D)} (h : PA X es (tnA g)) : PE X (.Tuple es x1 pos) (tn (wB g tupO)) := (pe_tupF h).wk fun σ H Q q => by
  obtain ⟨p, M0, H0, ρ, b, R, q⟩ := q
  refine ⟨p, M0, H0, ρ, b, R, g.m (fun ds b1 ⟨d, e, q⟩ vs H1 k1 i1 r1 => ?_) q⟩
  obtain ⟨l, rfl⟩ := iteS e
  exact ⟨by rw [r1.len]; exact l, fun a H2 np s2 t => q _ H2 (k1.tr (.of s2)) (Pl.same i1 s2) (.tup t (((R.up k1 i1).domu true).not np) (by rw [r1.len]; exact l) (r1.mono (.of s2)))⟩
theorem nE_lst {es : List Expr} {pos : Pos} {g : WP (List D)} (h : PA X es (tnA g)) : PE X (.List es pos) (tn (wB g lstO)) := (pe_lst h).wk fun σ H Q q => by
  obtain ⟨p, M0, H0, ρ, b, R, q⟩ := q
  refine ⟨p, M0, H0, ρ, b, R, g.m (fun ds b1 ⟨d, e, q⟩ vs H1 k1 i1 r1 => ?_) q⟩
  obtain ⟨l, rfl⟩ := iteS e
  exact ⟨by rw [r1.len]; exact l, fun a np => q _ _ (k1.tr (.of (smN np))) (Pl.same i1 (smN np)) (.lst upd_same (((R.up k1 i1).domu true).not np) (by rw [r1.len]; exact l) (r1.mono (.of (smN np))))⟩
theorem nCall {g : List D → Option D} {f : WP (List D)} {σ : L2.St} {H : Hp} {Q : VK} (q : tn (wB f g) σ H Q) : tCB (rC g) (tnA f) σ H Q := by
  obtain ⟨p, M0, H0, ρ, b, R, q⟩ := q
  refine ⟨p, M0, H0, ρ, b, R, f.m (fun ds b1 ⟨d, e, q⟩ vs H1 k1 i1 r1 => ?_) q⟩
  exact ⟨_, ds, d, (R.up k1 i1).domu true, r1, e, fun v H2 s2 r2 => q v H2 (k1.tr (.of s2)) (Pl.same i1 s2) r2⟩
theorem nE_cl {k n : Nat} {x : Str} {ps : List Str} {g : List D → Option D} {p pos : Pos} {e : Expr} {es : List Expr} {f : WP (List D)} (C : Cl X.prog X.w X.K X.mg X.base k x ps (spD n g)) (hr : Room k X.A) (hg : Gl X x) (ha : PA X (e :: es) (tnA f))
    (hdb : (x == ("__debug__" : Str)) = false := by decide) (he : starEach (e :: es) X.env = (false, eval e X.env) :: starEach es X.env := by rfl) (hpl : (backTo pos (starEach es X.env)).any (·.1) = false := by rfl) :
    PE X (.Call (.Name x p) (e :: es) [] pos) (tn (wB f (gN n g))) := (pe_cl C hr hg ha hdb he hpl).wk fun σ H Q q => by
  obtain ⟨p, M0, H0, ρ, b, R, q⟩ := q
  refine ⟨p, M0, H0, ρ, b, R, f.m (fun ds b1 ⟨d, e, q⟩ vs H1 k1 i1 r1 => ?_) q⟩
  unfold gN at e
  split at e
  · rename_i l
    rw [List.append_nil]
    exact ⟨_, ds, d, (R.up k1 i1).domu true, r1, l, e, fun v H2 s2 r2 => q v H2 (k1.tr (.of s2)) (Pl.same i1 s2) r2⟩
  · cases e
/-! a def that draws: its first argument is what is drawn from -/
structure GF where
  f : List D → Nat → (D → Nat → Prop) → Prop
  m : ∀ {ds b P Q}, (∀ d b', P d b' → Q d b') → f ds b P → f ds b Q
def spN (n : Nat) (F : GF) : Sp := fun vs H Q _ => ∃ (g : Pl) (M : Addr → Prop) (ws : List V) (ds : List D) (b : Nat), vs = g.h :: ws ∧ (∀ p, g.own p → M p) ∧ Dom M H ∧ g.inv b H ∧ RpAll M H ws ds ∧ ds.length = n ∧
  F.f ds b fun d b' => ∀ v H', KpM g.own H H' → g.inv b' H' → Rp M H' v d → Q v H'
def wCall (i n : Nat) (F : GF) (f : WP (List D)) : WP D := ⟨fun ρ b Q => ρ[i]? = some (some .pool) ∧ f.w ρ b fun ds b1 => ds.length = n ∧ F.f ds b1 Q, fun h z => ⟨z.1, f.m (fun ds b1 y => ⟨y.1, F.m h y.2⟩) z.2⟩⟩
theorem nE_draw {k n : Nat} {x : Str} {ps : List Str} {F : GF} {p pos : Pos} {e : Expr} {es : List Expr} {f : WP (List D)} {i : Nat} (C : Cl X.prog X.w X.K X.mg X.base k x ps (spN n F)) (hr : Room k X.A) (hg : Gl X x) (he0 : PE X e (tVar i)) (ha : PA X es (tnA f))
    (hdb : (x == ("__debug__" : Str)) = false := by decide) (he : starEach (e :: es) X.env = (false, eval e X.env) :: starEach es X.env := by rfl) (hpl : (backTo pos (starEach es X.env)).any (·.1) = false := by rfl) :
    PE X (.Call (.Name x p) (e :: es) [] pos) (tn (wCall i n F f)) := (pe_cl C hr hg (pa_cons he0 ha he) hdb he hpl).wk fun σ H Q q => by
  obtain ⟨p, M0, H0, ρ, b, R, ei, q⟩ := q
  refine ⟨_, R.pool i ei, p, M0, H0, ρ, b, R, f.m (fun ds b1 ⟨l, q⟩ vs H1 k1 i1 r1 => ?_) q⟩
  show spN n F ((p.h :: vs) ++ []) H1 Q E0
  rw [List.append_nil]
  exact ⟨p, _, vs, ds, b1, rfl, fun a o => .inl (R.pl a o), (R.up k1 i1).domu true, i1, r1, l, F.m (fun d b2 q v H2 k2 i2 r2 => q v H2 (k1.tr k2) i2 r2) q⟩
/-! ### walks and comprehensions -/
def inn (pr : Bool) (it : WP (List D)) : TI := fun σ H R => ∃ g M0 H0 ρ b, Rn g M0 H0 H σ ρ b ∧ it.w ρ b fun items b' => ∀ J H', KpM g.own H H' → g.inv b' H' → (∀ M', (∀ a, M' a → Mu true M0 σ ρ a ∨ H' a = none) → DW pr M' H' J items) → R J H'
theorem nI_pure {tg e : Expr} {pr : Bool} {it : Rho → Option (List D)} (h : PI X tg e (iD true pr it)) : PI X tg e (inn pr (wP it)) := h.wk fun σ H Q q => by
  obtain ⟨g, M0, H0, ρ, b, R, d, e, q⟩ := q
  exact ⟨_, H, _, d, R.rs true, e, fun J H1 s1 dw => q J H1 (.of s1) (Pl.same R.iv s1) fun M' hM => dw M' fun a m => (hM a m).elim (fun z => .inl (.inl z)) .inr⟩
def wI (it : Rho → Option (List D)) : WP (List D) := ⟨fun ρ b Q => ∃ d, it (shutR false ρ) = some d ∧ Q d b, fun h ⟨d, e, q⟩ => ⟨d, e, h _ _ q⟩⟩
theorem nI_ran1 {tg a : Expr} {p pos : Pos} {f : WP (List D)} (hg : Gl X "range") (hm : X.mg "range" = none) (ha : PA X [a] (tnA f)) (hs : starEach [a] X.env = [(false, eval a X.env)] := by rfl) : PI X tg (.Call (.Name "range" p) [a] [] pos) (inn false (wB f ran1D)) := (pi_range1 hg hm ha hs).wk fun σ H R q => by
  obtain ⟨p, M0, H0, ρ, b, Rr, q⟩ := q
  refine ⟨p, M0, H0, ρ, b, Rr, f.m (fun ds b1 ⟨d, e, q⟩ vs H1 k1 i1 r1 => ?_) q⟩
  cases r1 with
  | nil => cases e
  | cons h t =>
    cases t with
    | nil =>
      cases h <;> try (cases e; done)
      obtain ⟨l, rfl⟩ := iteS e
      exact ⟨_, rfl, l.1, by omega, q _ _ k1 i1 fun M' hM => DW.rng (szR (by omega))⟩
    | cons h2 t => cases h <;> cases e
theorem Rn.inner {g : Pl} {M0 : Addr → Prop} {H0 H H2 : Hp} {σ : L2.St} {ρ : Rho} {b b2 : Nat} {D : Addr} {acc : List V} (R : Rn g M0 H0 H σ ρ b) (hD : H D = none) (k : KpM g.own H H2) (i2 : g.inv b2 H2) (eD : H2 D = some (.lst acc)) (vs : List Nat) : Rn g (Mi true M0 σ ρ D) H2 H2 (wipe σ vs) (wipeR (shutR true ρ) vs) b2 := by
  have no : ∀ (vs : List Nat) a, Mu true (Mi true M0 σ ρ D) (wipe σ vs) (wipeR (shutR true ρ) vs) a → Mi true M0 σ ρ D a := fun vs a m => Mi.noOwn a m
  have nown : ∀ (vs : List Nat) (i : Nat) (ds : List Dl.D), (wipeR (shutR true ρ) vs)[i]? = some (some (.own ds)) → False := by
    intro vs
    induction vs with
    | nil => intro i ds e; exact shut_nown e
    | cons v vs ih =>
      intro i ds e
      rcases set_get (show ((wipeR (shutR true ρ) vs).set v none)[i]? = _ from e) with ⟨_, z⟩ | ⟨_, z⟩
      · cases z
      · exact ih i ds z
  have lv : ∀ (vs : List Nat) (i : Nat) (x : LV), (wipeR (shutR true ρ) vs)[i]? = some (some x) → ρ[i]? = some (some x) ∧ i ∉ vs := by
    intro vs
    induction vs with
    | nil =>
      intro i x e
      rcases seal_get (show (shutR true ρ)[i]? = _ from e) with ⟨e, _⟩ | ⟨z, _⟩
      · exact ⟨e, by simp⟩
      · cases z
    | cons v vs ih =>
      intro i x e
      rcases set_get (show ((wipeR (shutR true ρ) vs).set v none)[i]? = _ from e) with ⟨_, z⟩ | ⟨n, z⟩
      · cases z
      · have := ih i x z
        exact ⟨this.1, by simp only [List.mem_cons, not_or]; exact ⟨fun w => n w.symm, this.2⟩⟩
  have dm : Dom (Mi true M0 σ ρ D) H2 := fun p m => by
    rcases m with m | rfl
    · exact (R.up k i2).domu true p m
    · rw [eD]; intro z; cases z
  refine ⟨.refl, dm, dm, fun p o => .inl (.inl (R.pl p o)), i2, ?_, fun i d e => ?_, fun i ds e => (nown vs i ds e).elim, fun i v e => ?_, fun i e => ?_, fun i j a b p e => (nown vs i _ e).elim⟩
  · have : ∀ vs : List Nat, (wipeR (shutR true ρ) vs).length = ρ.length := by
      intro vs
      induction vs with
      | nil => unfold wipeR shutR; rw [List.length_map]
      | cons v vs ih => unfold wipeR; rw [List.length_set, ih]
    rw [this, wipe_len, R.len]
  · obtain ⟨e1, nv⟩ := lv vs i _ e
    obtain ⟨v, a, c⟩ := R.dat i d e1
    refine ⟨v, by rw [wipe_get nv]; exact a, (c.reM (M' := Mu true (Mi true M0 σ ρ D) (wipe σ vs) (wipeR (shutR true ρ) vs)) fun a m => ?_).mono fun p o n e => k p o (fun z => n (.inl (.inl (.inl (R.pl p z))))) e⟩
    rcases no vs a m with m | rfl
    · exact .inl m
    · exact .inr hD
  · obtain ⟨e1, nv⟩ := lv vs i _ e
    rw [wipe_get nv]
    exact R.raw i v e1
  · obtain ⟨e1, nv⟩ := lv vs i _ e
    rw [wipe_get nv]
    exact R.pool i e1
theorem Rn.set {g : Pl} {M0 : Addr → Prop} {H0 H : Hp} {σ : L2.St} {ρ : Rho} {b : Nat} {i : Nat} {v : V} {d : D} (R : Rn g M0 H0 H σ ρ b) (r : Rp (Mu true M0 σ ρ) H v d) : Rn g M0 H0 H (σ.set i (some v)) (ρ.set i (some (.dat d))) b := by
  have sh : ∀ a, Mu true M0 (σ.set i (some v)) (ρ.set i (some (.dat d))) a → Mu true M0 σ ρ a ∨ H a = none := fun a m => .inl (Mu.shrink (fun ds e => by cases e) a m)
  refine ⟨R.kp, R.dom0, R.dom, R.pl, R.iv, by rw [List.length_set, List.length_set]; exact R.len, fun j d' e => ?_, fun j ds e => ?_, fun j w e => ?_, fun j e => ?_, fun j k a b p e1 e2 e3 e4 => ?_⟩
  · rcases set_get e with ⟨rfl, e9⟩ | ⟨n, e⟩
    · cases e9
      have hl : i < ρ.length := by
        have := (List.getElem?_eq_some_iff.mp e).1
        rwa [List.length_set] at this
      exact ⟨v, set_same (by rw [← R.len]; exact hl), r.reM sh⟩
    · obtain ⟨w, x, y⟩ := R.dat j d' e
      exact ⟨w, by rw [set_other n]; exact x, y.reM sh⟩
  · rcases set_get e with ⟨rfl, e9⟩ | ⟨n, e⟩
    · cases e9
    · obtain ⟨p, vs, x, y, z, l, w⟩ := R.own j ds e
      exact ⟨p, vs, by rw [set_other n]; exact x, y, z, l, w.reM sh⟩
  · rcases set_get e with ⟨rfl, e9⟩ | ⟨n, e⟩
    · cases e9
    · rw [set_other n]; exact R.raw j w e
  · rcases set_get e with ⟨rfl, e9⟩ | ⟨n, e⟩
    · cases e9
    · rw [set_other n]; exact R.pool j e
  · rcases set_get e1 with ⟨rfl, e⟩ | ⟨n1, f1⟩
    · cases e
    rcases set_get e2 with ⟨rfl, e⟩ | ⟨n2, f2⟩
    · cases e
    rw [set_other n1] at e3
    rw [set_other n2] at e4
    exact R.inj j k a b p f1 f2 e3 e4
mutual
theorem bindP.okN {K : PySem.W.Frag} {g : Pl} {M0 : Addr → Prop} {H0 H : Hp} {b : Nat} : ∀ {p : Pat} {σ : L2.St} {ρ ρ' : Rho} {v : V} {d : D} {Q : L2.St → Hp → Prop} {pr : Bool}, Rn g M0 H0 H σ ρ b → RpI pr (Mu true M0 σ ρ) H v d → p.fits pr = true → bindP p d ρ = some ρ' →
    (∀ σ', Rn g M0 H0 H σ' ρ' b → Bnd M0 σ ρ (slP p) σ' ρ' → Q σ' H) → gP K p v σ H Q
  | .nm i, σ, ρ, ρ', v, d, Q, pr, R, r, ft, e, q => by
    have hpr : pr = false := by cases pr <;> first | rfl | cases ft
    subst hpr
    have r : Rp (Mu true M0 σ ρ) H v d := by
      rcases r with r | ⟨z, _⟩
      · exact r
      · cases z
    unfold bindP at e
    obtain ⟨l, rfl⟩ := iteS e
    refine q _ (R.set r) ⟨fun j hj => set_other fun z => hj (by rw [z]; exact List.mem_singleton.mpr rfl), List.length_set .., Mu.shrink fun ds e => by cases e⟩
  | .tp ps, σ, ρ, ρ', v, d, Q, pr, R, r, ft, e, q => by
    rcases r with r | ⟨_, a, xs, ds, rfl, rfl, t, r⟩
    · cases r <;> try (cases e; done)
      rename_i xs ds t n l r
      have hl := bindPs.len (show bindPs ps ds ρ = some ρ' from e)
      exact ⟨_, xs, rfl, t.sq, by rw [r.len]; exact hl, bindPs.okN R r e q⟩
    · have hl := bindPs.len (show bindPs ps ds ρ = some ρ' from e)
      exact ⟨_, xs, rfl, SqT.of t, by rw [r.len]; exact hl, bindPs.okN R r e q⟩
theorem bindPs.okN {K : PySem.W.Frag} {g : Pl} {M0 : Addr → Prop} {H0 H : Hp} {b : Nat} : ∀ {ps : Pats} {σ : L2.St} {ρ ρ' : Rho} {vs : List V} {ds : List D} {Q : L2.St → Hp → Prop}, Rn g M0 H0 H σ ρ b → RpAll (Mu true M0 σ ρ) H vs ds → bindPs ps ds ρ = some ρ' →
    (∀ σ', Rn g M0 H0 H σ' ρ' b → Bnd M0 σ ρ (slPs ps) σ' ρ' → Q σ' H) → gPs K ps vs σ H Q
  | .nil, σ, ρ, ρ', vs, ds, Q, R, r, e, q => by
    cases r with
    | nil => cases e; exact ⟨rfl, q σ R ⟨fun _ _ => rfl, rfl, fun a m => m⟩⟩
    | cons h t => cases e
  | .cons p ps, σ, ρ, ρ', vs, ds, Q, R, r, e, q => by
    cases r with
    | nil => cases e
    | cons h t =>
      unfold bindPs at e
      obtain ⟨ρ1, e1, e⟩ := some_bind e
      refine ⟨_, _, rfl, bindP.okN (pr := false) R (.inl h) (by cases p <;> rfl) e1 fun σ1 R1 B1 => ?_⟩
      refine bindPs.okN R1 (t.reM fun a m => .inl (B1.mu a m)) e fun σ2 R2 B2 => q σ2 R2 ⟨fun j hj => ?_, B2.len.trans B1.len, fun a m => B1.mu a (B2.mu a m)⟩
      have hj : j ∉ slP p ++ slPs ps := hj
      rw [List.mem_append, not_or] at hj
      rw [B2.oth j hj.2, B1.oth j hj.1]
end
def lcN (p : Pat) (c : WP Bool) (f : WP D) (ρ : Rho) : List D → Nat → (List D → Nat → Prop) → Prop
  | [], b, Q => Q [] b
  | x :: xs, b, Q => ∃ ρ1, bindP p x ρ = some ρ1 ∧ c.w ρ1 b fun k b1 => if k = true then f.w ρ1 b1 fun d b2 => lcN p c f ρ xs b2 fun r b3 => Q (d :: r) b3 else lcN p c f ρ xs b1 Q
theorem lcN.mono {p : Pat} {c : WP Bool} {f : WP D} {ρ : Rho} : ∀ {xs : List D} {b : Nat} {P Q : List D → Nat → Prop}, (∀ r b, P r b → Q r b) → lcN p c f ρ xs b P → lcN p c f ρ xs b Q
  | [], _, _, _, h, z => h _ _ z
  | x :: xs, b, P, Q, h, ⟨ρ1, e, z⟩ => ⟨ρ1, e, c.m (fun k b1 y => by
      cases k with
      | true => exact f.m (fun d b2 y => lcN.mono (fun r b3 y => h _ _ y) y) y
      | false => exact lcN.mono h y) z⟩
def wLc (vs : List Nat) (it : WP (List D)) (p : Pat) (c : WP Bool) (f : WP D) : WP D := ⟨fun ρ b Q => it.w ρ b fun items b1 => lcN p c f (wipeR (shutR true ρ) vs) items b1 fun r b2 => Q (.list r) b2, fun h z => it.m (fun items b1 y => lcN.mono (fun r b2 y => h _ _ y) y) z⟩
theorem lcCoreN {g : Pl} {pr : Bool} {M0 : Addr → Prop} {H0 H1 : Hp} {σ : L2.St} {ρ : Rho} {b : Nat} {J : It} {items : List D} {p : Pat} {c : WP Bool} {f : WP D} {vs : List Nat} {D : Addr} {Qd : Hp → Prop} {P : List Dl.D → Nat → Prop}
    (R : Rn g M0 H0 H1 σ ρ b) (dw : ∀ M', (∀ a, M' a → Mu true M0 σ ρ a ∨ H1 a = none) → DW pr M' H1 J items) (hD : H1 D = none) (hp : p.fits pr = true) (hs : ∀ j, j ∈ slP p → j ∈ vs) (e : lcN p c f (wipeR (shutR true ρ) vs) items b P)
    (q : ∀ H acc res b', KpM g.own H1 H → g.inv b' H → H D = some (.lst acc) → acc.length ≤ sizeLine → RpAll (Mi true M0 σ ρ D) H acc res → P res b' → Qd H) :
    ∃ W : Nat → Nat → Hp → Prop, (∃ m, W 0 m (upd H1 D (.lst []))) ∧ ∀ i m H, W i m H →
      (J.stop i H ∧ Qd H) ∨ (J.go i H ∧ ∃ Nx : Hp → Prop, (∀ H', Nx H' → ∃ m', m' < m ∧ W (i + 1) m' H') ∧ ∀ x H', J.yld i H x H' → gP K p x (wipe σ vs) H' fun σ2 H2 => wipe σ2 vs = wipe σ vs ∧ tnT c σ2 H2 fun b H3 =>
        if b = true then tn f σ2 H3 fun y H4 => ∃ acc, H4 D = some (.lst acc) ∧ acc.length < sizeLine ∧ Nx (upd H4 D (.lst (acc ++ [y]))) else Nx H3) := by
  have dw := dw (Mi true M0 σ ρ D) fun a m => m.elim .inl fun z => .inr (by rw [z]; exact hD)
  have sz := dw.sz
  obtain ⟨G, Y, W, hG, hY⟩ := dw.ex
  have pI : ∀ {H H' : Hp}, KpM g.own H H' → KpM (Mi true M0 σ ρ D) H H' := fun k p o n e => k p o (fun z => n (.inl (.inl (R.pl p z)))) e
  have gD : ¬ g.own D := fun o => R.dom D (R.pl D o) hD
  refine lc_it W (fun i H => KpM g.own H1 H ∧ ∃ acc done b', H D = some (.lst acc) ∧ acc.length ≤ i ∧ g.inv b' H ∧ RpAll (Mi true M0 σ ρ D) H acc done ∧ lcN p c f (wipeR (shutR true ρ) vs) (items.drop i) b' fun r b3 => P (done ++ r) b3) ⟨.of (smN hD), [], [], b, upd_same, Nat.le_refl _, Pl.same R.iv (smN hD), .nil, e⟩ (fun i H hi h => hG H (pI h.1)) (fun i v H H' hi h y => ?_) (fun H h => ?_)
  · obtain ⟨sm, acc, done, b1, eD, la, iv, ra, er⟩ := h
    obtain ⟨d, ed, s2, rv⟩ := hY i v H H' (pI sm) y
    rw [drop_at ed] at er
    unfold lcN at er
    obtain ⟨ρ1, e1, er⟩ := er
    have Rin := R.inner hD (sm.tr (.of s2)) (Pl.same iv s2) (s2 _ _ eD) vs
    refine bindP.okN (pr := pr) Rin ?_ hp e1 fun σ2 R2 B2 => ⟨wipe_eq B2.oth B2.len hs, _, _, _, ρ1, b1, R2, c.m (fun k b2 er H3 k3 i3 => ?_) er⟩
    · rcases rv with rv | ⟨zp, a, xs, ds, z1, z2, z3, z4⟩
      · exact .inl (rv.reM fun a m => .inl (Mi.noOwn a m))
      · exact .inr ⟨zp, a, xs, ds, z1, z2, z3, z4.reM fun a m => .inl (Mi.noOwn a m)⟩
    have k23 : KpM g.own H H3 := (KpM.of s2).tr k3
    cases k with
    | true =>
      refine ⟨_, _, _, ρ1, b2, R2.up k3 i3, f.m (fun dv b3 er y H4 k4 i4 r4 => ?_) er⟩
      have k24 := k23.tr k4
      have eD4 := k24 _ _ gD eD
      have kp : KpM (Mi true M0 σ ρ D) H4 (upd H4 D (.lst (acc ++ [y]))) := fun q o n e => by
        rw [upd_ne (fun z => n (.inr z))]
        exact e
      have r4 : Rp (Mi true M0 σ ρ D) H4 y dv := r4.reM fun a m => .inl (.inl m)
      refine ⟨acc, eD4, by omega, fun q o n e => ?_, acc ++ [y], done ++ [dv], b3, upd_same, by rw [List.length_append]; simp; omega, g.loc i4 fun p o => upd_ne fun z => gD (by rw [← z]; exact o), ?_, lcN.mono (fun r b z => by rw [List.append_assoc]; exact z) er⟩
      · rw [upd_ne (ne_of_none e hD)]
        exact (sm.tr k24) _ _ n e
      · exact ((ra.mono (pI k24)).mono kp).app (.cons (r4.mono kp) .nil)
    | false =>
      exact ⟨sm.tr k23, acc, done, b2, k23 _ _ gD eD, by omega, i3, ra.mono (pI k23), er⟩
  · obtain ⟨sm, acc, done, b1, eD, la, iv, ra, er⟩ := h
    rw [List.drop_length] at er
    have er : P (done ++ []) b1 := er
    rw [List.append_nil] at er
    exact q H acc done b1 sm iv eD (by omega) ra er
def wYes : WP Bool := ⟨fun _ b Q => Q true b, fun h z => h _ _ z⟩
theorem nTs_nil : PTs X [] (tnT wYes) := pts_nil.wk fun σ H Q q => by
  obtain ⟨p, M0, H0, ρ, b, R, q⟩ := q
  exact q H .refl R.iv
theorem nLcE {it : WP (List D)} {p : Pat} {c : WP Bool} {f : WP D} {vs : List Nat} {pr : Bool} (hp : p.fits pr = true) (hs : ∀ j, j ∈ slP p → j ∈ vs) {σ : L2.St} {H : Hp} {Q : VK} (q : tn (wLc vs it p c f) σ H Q) : tLc (inn pr it) (gP K p) (tnT c) (tn f) vs σ H Q := by
  obtain ⟨g, M0, H0, ρ, b, R, q⟩ := q
  refine ⟨g, M0, H0, ρ, b, R, it.m (fun items b1 q J H1 k1 i1 dw D hD => ?_) q⟩
  exact lcCoreN (R.up k1 i1) dw hD hp hs q fun H2 acc res b2 k2 i2 eD la ra q => q _ _ (k1.tr k2) i2 (.lst eD (((R.up k1 i1).domu true).not hD) la (ra.reM fun a m => .inl (.inl m)))
/-- a new list, with draws -/
def tnN (f : WP D) : TE := fun σ H Q => ∃ g M0 H0 ρ b, Rn g M0 H0 H σ ρ b ∧ f.w ρ b fun d b' => ∃ ds, d = .list ds ∧ ∀ p vs H', H p = none → KpM g.own H H' → g.inv b' H' → H' p = some (.lst vs) → vs.length ≤ sizeLine → RpAll (Mi true M0 σ ρ p) H' vs ds → Q (.ref p) H'
theorem nLcN {it : WP (List D)} {p : Pat} {c : WP Bool} {f : WP D} {vs : List Nat} {pr : Bool} (hp : p.fits pr = true) (hs : ∀ j, j ∈ slP p → j ∈ vs) {σ : L2.St} {H : Hp} {Q : VK} (q : tnN (wLc vs it p c f) σ H Q) : tLc (inn pr it) (gP K p) (tnT c) (tn f) vs σ H Q := by
  obtain ⟨g, M0, H0, ρ, b, R, q⟩ := q
  refine ⟨g, M0, H0, ρ, b, R, it.m (fun items b1 q J H1 k1 i1 dw D hD => ?_) q⟩
  have nD : H D = none := by
    cases z : H D with
    | none => rfl
    | some o =>
      by_cases ow : g.own D
      · exact ((g.alive i1 ow) hD).elim
      · rw [k1 _ _ ow z] at hD; cases hD
  exact lcCoreN (R.up k1 i1) dw hD hp hs q fun H2 acc res b2 k2 i2 eD la ra ⟨ds, z, q⟩ => by
    cases z
    exact q D acc H2 nD (k1.tr k2) i2 eD la ra
end
end Dl
namespace Dl
open PySem PySem.Spec PyProof.Rows L2 Rt
/-! ### statements that draw -/
def PostN (g : Pl) (M0 : Addr → Prop) (H0 : Hp) (σ : L2.St) (ρ : Rho) (H : Hp) (Dn : Ends) : Out → Nat → Prop
  | .nx ρ', b => ∀ σ' H', Rn g M0 H0 H' σ' ρ' b → Stp M0 σ ρ H σ' ρ' H' → Dn.nx σ' H'
  | .rt d, b => ∀ v H', KpM g.own H0 H' → g.inv b H' → Rp M0 H' v d → Dn.rt v H'
  | .bk ρ', b => ∀ σ' H', Rn g M0 H0 H' σ' ρ' b → Stp M0 σ ρ H σ' ρ' H' → Dn.bk σ' H'
  | .ct ρ', b => ∀ σ' H', Rn g M0 H0 H' σ' ρ' b → Stp M0 σ ρ H σ' ρ' H' → Dn.ct σ' H'
theorem PostN.from {g : Pl} {M0 : Addr → Prop} {H0 : Hp} {σ σ1 : L2.St} {ρ ρ1 : Rho} {H H1 : Hp} {Dn : Ends} {o : Out} {b : Nat} (st : Stp M0 σ ρ H σ1 ρ1 H1) (p : PostN g M0 H0 σ ρ H Dn o b) : PostN g M0 H0 σ1 ρ1 H1 Dn o b := by
  cases o with
  | nx ρ' => exact fun σ' H' R s => p σ' H' R (st.trans s)
  | rt d => exact p
  | bk ρ' => exact fun σ' H' R s => p σ' H' R (st.trans s)
  | ct ρ' => exact fun σ' H' R s => p σ' H' R (st.trans s)
def tSn (f : WP Out) : TS := fun Dn σ H => ∃ g M0 H0 ρ b, Rn g M0 H0 H σ ρ b ∧ f.w ρ b fun o b' => PostN g M0 H0 σ ρ H Dn o b'
theorem Rn.stp {g : Pl} {M0 : Addr → Prop} {H0 H H' : Hp} {σ : L2.St} {ρ : Rho} {b : Nat} (R : Rn g M0 H0 H σ ρ b) (k : KpM g.own H H') : Stp M0 σ ρ H σ ρ H' := ⟨fun p o n e => k p o (fun z => n (.inl (R.pl p z))) e, fun p m => .inl m⟩
section
variable {X : Cx} {K : PySem.W.Frag}
def swAsg (p : Pat) (f : WP D) : WP Out := ⟨fun ρ b Q => f.w ρ b fun d b' => ∃ ρ1, bindP p d ρ = some ρ1 ∧ Q (.nx ρ1) b', fun h z => f.m (fun d b' ⟨ρ1, e, y⟩ => ⟨ρ1, e, h _ _ y⟩) z⟩
theorem nS_asg {st : Stmt} {p : Pat} {f : WP D} (h : PS X st (tAsg (tn f) (gP K p))) : PS X st (tSn (swAsg p f)) := h.wk fun Dn σ H q => by
  obtain ⟨g, M0, H0, ρ, b, R, q⟩ := q
  refine ⟨g, M0, H0, ρ, b, R, f.m (fun d b' ⟨ρ1, e1, q⟩ v H1 k1 i1 r1 => ?_) q⟩
  exact bindP.okN (pr := false) (R.up k1 i1) (.inl r1) (by cases p <;> rfl) e1 fun σ1 R1 B1 => q σ1 H1 R1 ((R.stp k1).trans ⟨.refl, fun p m => .inl (B1.mu p m)⟩)
def swRet (f : WP D) : WP Out := ⟨fun ρ b Q => f.w ρ b fun d b' => Q (.rt d) b', fun h z => f.m (fun d b' y => h _ _ y) z⟩
theorem nS_ret {st : Stmt} {f : WP D} (h : PS X st (tRet (tn f))) : PS X st (tSn (swRet f)) := h.wk fun Dn σ H q => by
  obtain ⟨g, M0, H0, ρ, b, R, q⟩ := q
  exact ⟨g, M0, H0, ρ, b, R, f.m (fun d b' q v H1 k1 i1 r1 => q v H1 (R.kp.tr k1) i1 (r1.reM Mu.lo)) q⟩
def swRetL (f : EF) : WP Out := ⟨fun ρ b Q => ∃ d, f (shutR false ρ) = some d ∧ Q (.rt d) b, fun h ⟨d, e, y⟩ => ⟨d, e, h _ _ y⟩⟩
theorem nS_retL {st : Stmt} {f : EF} {μ : Bool} (h : PS X st (tRet (tD μ f))) : PS X st (tSn (swRetL f)) := h.wk fun Dn σ H q => by
  obtain ⟨g, M0, H0, ρ, b, R, d, e, q⟩ := q
  exact ⟨_, H, _, d, R.rs false, e, fun v H1 s1 r1 => q v H1 (R.kp.tr (.of s1)) (Pl.same R.iv s1) (r1.reM fun a m => .inl (.inl (.inl m)))⟩
def swIf (c : WP Bool) (f g : WP Out) : WP Out := wIf c f g
theorem nS_if {c : Expr} {a b : List Stmt} {pos : Pos} {t : WP Bool} {f g : WP Out} (hc : PT X c (tnT t)) (ha : PSs X a (tSn f)) (hb : PSs X b (tSn g)) : PS X (.If c a b pos) (tSn (swIf t f g)) := (ps_if hc ha hb).wk fun Dn σ H q => by
  obtain ⟨p, M0, H0, ρ, b, R, q⟩ := q
  refine ⟨p, M0, H0, ρ, b, R, t.m (fun k b1 q H1 k1 i1 => ?_) q⟩
  cases k with
  | true => exact ⟨p, M0, H0, ρ, b1, R.up k1 i1, f.m (fun o b2 q => q.from (R.stp k1)) q⟩
  | false => exact ⟨p, M0, H0, ρ, b1, R.up k1 i1, g.m (fun o b2 q => q.from (R.stp k1)) q⟩
def swSeq (f g : WP Out) : WP Out := ⟨fun ρ b Q => f.w ρ b fun o b1 => match o with
  | .nx ρ' => g.w ρ' b1 Q
  | o => Q o b1, fun h z => f.m (fun o b1 y => by
    cases o with
    | nx ρ' => exact g.m h y
    | rt d => exact h _ _ y
    | bk ρ' => exact h _ _ y
    | ct ρ' => exact h _ _ y) z⟩
theorem nSs_cons {st : Stmt} {rest : List Stmt} {f g : WP Out} (h : PS X st (tSn f)) (hs : PSs X rest (tSn g)) : PSs X (st :: rest) (tSn (swSeq f g)) := (pss_cons h hs).wk fun Dn σ H q => by
  obtain ⟨p, M0, H0, ρ, b, R, q⟩ := q
  refine ⟨p, M0, H0, ρ, b, R, f.m (fun o b1 q => ?_) q⟩
  cases o with
  | nx ρ' => exact fun σ' H' R' s => ⟨p, M0, H0, ρ', b1, R', g.m (fun o b2 q => q.from s) q⟩
  | rt d => exact q
  | bk ρ' => exact q
  | ct ρ' => exact q
theorem nSs_one {st : Stmt} {f : WP Out} (h : PS X st (tSn f)) : PSs X [st] (tSn f) := pss_one h
def swNil : WP Out := ⟨fun ρ b Q => Q (.nx ρ) b, fun h z => h _ _ z⟩
theorem nSs_nil : PSs X [] (tSn swNil) := pss_nil.wk fun Dn σ H q => by
  obtain ⟨p, M0, H0, ρ, b, R, q⟩ := q
  exact q σ H R .refl
def forN (p : Pat) (body : WP Out) : List D → Rho → Nat → (Out → Nat → Prop) → Prop
  | [], ρ, b, Q => Q (.nx ρ) b
  | x :: xs, ρ, b, Q => ∃ ρ1, bindP p x ρ = some ρ1 ∧ body.w ρ1 b fun o b1 => match o with
    | .nx ρ2 => forN p body xs ρ2 b1 Q
    | .ct ρ2 => forN p body xs ρ2 b1 Q
    | .bk ρ2 => Q (.nx ρ2) b1
    | .rt d => Q (.rt d) b1
theorem forN.mono {p : Pat} {body : WP Out} : ∀ {xs : List D} {ρ : Rho} {b : Nat} {P Q : Out → Nat → Prop}, (∀ o b, P o b → Q o b) → forN p body xs ρ b P → forN p body xs ρ b Q
  | [], _, _, _, _, h, z => h _ _ z
  | x :: xs, ρ, b, P, Q, h, ⟨ρ1, e, z⟩ => ⟨ρ1, e, body.m (fun o b1 y => by
      cases o with
      | nx ρ2 => exact forN.mono h y
      | ct ρ2 => exact forN.mono h y
      | bk ρ2 => exact h _ _ y
      | rt d => exact h _ _ y) z⟩
def swFor (it : WP (List D)) (p : Pat) (body : WP Out) : WP Out := ⟨fun ρ b Q => it.w ρ b fun items b1 => forN p body items ρ b1 Q, fun h z => it.m (fun items b1 y => forN.mono h y) z⟩
theorem nFor {it : WP (List D)} {p : Pat} {body : WP Out} {pr : Bool} (hp : p.fits pr = true) {Dn : Ends} {σ : L2.St} {H : Hp} (q : tSn (swFor it p body) Dn σ H) : tFor (inn pr it) (gP K p) (tSn body) Dn σ H := by
  obtain ⟨g, M0, H0, ρ, b, R, q⟩ := q
  refine ⟨g, M0, H0, ρ, b, R, it.m (fun items b1 q J H1 k1 i1 dw => ⟨fun i m σ' H' => i ≤ items.length ∧ m = items.length - i ∧ ∃ ρ' b', Rn g M0 H0 H' σ' ρ' b' ∧ Stp M0 σ ρ H1 σ' ρ' H' ∧ forN p body (items.drop i) ρ' b' fun o b2 => PostN g M0 H0 σ ρ H Dn o b2, ⟨_, Nat.zero_le _, rfl, ρ, b1, R.up k1 i1, .refl, q⟩, ?_⟩) q⟩
  rintro i m σ' H' ⟨hi, rfl, ρ', b', R', st, e⟩
  have dw := dw (fun a => Mu true M0 σ' ρ' a ∨ Mu true M0 σ ρ a) fun a m => m.elim (st.ow a) .inl
  obtain ⟨G, Y, W, hG, hY⟩ := dw.ex
  have kp : KpM (fun a => Mu true M0 σ' ρ' a ∨ Mu true M0 σ ρ a) H1 H' := fun p o n e => st.kp p o (fun m => n (.inr m)) e
  have stA := (R.stp k1).trans st
  by_cases hlt : i < items.length
  · refine .inr ⟨W.goes i H' hlt (hG _ kp), fun σ3 H3 => ∃ ρ3 b3, Rn g M0 H0 H3 σ3 ρ3 b3 ∧ Stp M0 σ ρ H1 σ3 ρ3 H3 ∧ forN p body (items.drop (i + 1)) ρ3 b3 fun o b2 => PostN g M0 H0 σ ρ H Dn o b2, fun σ3 H3 h => ⟨items.length - (i + 1), by omega, hlt, rfl, h⟩, fun x Hb y => ?_⟩
    obtain ⟨d, ed, s2, rv⟩ := hY i x H' Hb kp (W.yields i H' x Hb hlt (hG _ kp) y)
    rw [drop_at ed] at e
    unfold forN at e
    obtain ⟨ρ1, e1, e⟩ := e
    refine bindP.okN (pr := pr) (R'.mono s2) ?_ hp e1 fun σ2 R2 B2 => ⟨g, M0, H0, ρ1, b', R2, body.m (fun o1 b2 e => ?_) e⟩
    · rcases rv with rv | ⟨zp, a, xs, ds, z1, z2, z3, z4⟩
      · exact .inl (rv.reM fun a m => .inl (.inl m))
      · exact .inr ⟨zp, a, xs, ds, z1, z2, z3, z4.reM fun a m => .inl (.inl m)⟩
    have st2 : Stp M0 σ' ρ' H' σ2 ρ1 Hb := ⟨.of s2, fun p m => .inl (B2.mu p m)⟩
    cases o1 with
    | nx ρ2 => exact fun σ3 H3 R3 s3 => ⟨ρ2, b2, R3, (st.trans st2).trans s3, e⟩
    | ct ρ2 => exact fun σ3 H3 R3 s3 => ⟨ρ2, b2, R3, (st.trans st2).trans s3, e⟩
    | bk ρ2 => exact fun σ3 H3 R3 s3 => (show PostN g M0 H0 σ ρ H Dn (.nx ρ2) b2 from e) σ3 H3 R3 ((stA.trans st2).trans s3)
    | rt d => exact e
  · have : i = items.length := by omega
    subst this
    rw [List.drop_length] at e
    exact .inl ⟨W.stops H' (hG _ kp), (show PostN g M0 H0 σ ρ H Dn (.nx ρ') b' from e) σ' H' R' stA⟩
theorem nS_for {st : Stmt} {it : WP (List D)} {p : Pat} {body : WP Out} {pr : Bool} (h : PS X st (tFor (inn pr it) (gP K p) (tSn body))) (hp : p.fits pr = true := by rfl) : PS X st (tSn (swFor it p body)) := h.wk fun Dn σ H q => nFor hp q
/-! lists of one's own -/
theorem Rn.ownSet {g : Pl} {M0 : Addr → Prop} {H0 H : Hp} {σ : L2.St} {ρ : Rho} {b : Nat} {i : Nat} {ds ds' : List D} {p : Addr} {vs vs' : List V} (R : Rn g M0 H0 H σ ρ b) (e : ρ[i]? = some (some (.own ds))) (es : σ[i]? = some (some (.ref p))) (eH : H p = some (.lst vs)) (l : vs'.length ≤ sizeLine) (r : RpAll (Mu true M0 σ ρ) H vs' ds') :
    Rn g M0 H0 (upd H p (.lst vs')) σ (ρ.set i (some (.own ds'))) b ∧ Stp M0 σ ρ H σ (ρ.set i (some (.own ds'))) (upd H p (.lst vs')) := by
  have hi : i < ρ.length := (List.getElem?_eq_some_iff.mp e).1
  have mp : Mu true M0 σ ρ p := .inr ⟨rfl, i, ds, e, es⟩
  have mu : ∀ a, Mu true M0 σ (ρ.set i (some (.own ds'))) a → Mu true M0 σ ρ a := fun a m => by
    rcases m with m | ⟨_, j, es', e1, e2⟩
    · exact .inl m
    · rcases set_get e1 with ⟨rfl, _⟩ | ⟨n, e1⟩
      · exact .inr ⟨rfl, i, ds, e, e2⟩
      · exact .inr ⟨rfl, j, es', e1, e2⟩
  have kp : KpM (Mu true M0 σ ρ) H (upd H p (.lst vs')) := fun a o n e => by
    rw [upd_ne (fun z => n (by rw [z]; exact mp))]
    exact e
  have h0 : H0 p = none := by
    obtain ⟨q, us, a, b, c, _⟩ := R.own i ds e
    rw [es] at a
    cases a
    exact c
  have np : ¬ M0 p := fun m => R.dom0 p m h0
  refine ⟨⟨fun a o n e => ?_, R.dom0, fun a m => ?_, R.pl, g.loc R.iv fun a o => upd_ne fun z => np (by rw [← z]; exact R.pl a o), by rw [List.length_set]; exact R.len, fun j d e1 => ?_, fun j es' e1 => ?_, fun j v e1 => ?_, fun j e1 => ?_, fun j k a b q e1 e2 e3 e4 => ?_⟩, kp, fun a m => .inl (mu a m)⟩
  · rw [upd_ne (fun z => by rw [z, h0] at e; cases e)]
    exact R.kp a o n e
  · rw [upd_ne (fun z => np (by rw [← z]; exact m))]
    exact R.dom a m
  · rcases set_get e1 with ⟨_, z⟩ | ⟨n, e1⟩
    · cases z
    · obtain ⟨v, a, b⟩ := R.dat j d e1
      exact ⟨v, a, (b.mono kp).reM fun a m => .inl (mu a m)⟩
  · rcases set_get e1 with ⟨rfl, z⟩ | ⟨n, e1⟩
    · cases z
      exact ⟨p, vs', es, upd_same, h0, l, (r.mono kp).reM fun a m => .inl (mu a m)⟩
    · obtain ⟨q, us, a, b, c, l', r'⟩ := R.own j es' e1
      refine ⟨q, us, a, ?_, c, l', (r'.mono kp).reM fun a m => .inl (mu a m)⟩
      rw [upd_ne (fun z => n (R.inj i j ds es' p e e1 es (by rw [← z]; exact a)))]
      exact b
  · rcases set_get e1 with ⟨_, z⟩ | ⟨n, e1⟩
    · cases z
    · exact R.raw j v e1
  · rcases set_get e1 with ⟨_, z⟩ | ⟨n, e1⟩
    · cases z
    · exact R.pool j e1
  · have f1 : ∃ a', ρ[j]? = some (some (.own a')) := by
      rcases set_get e1 with ⟨rfl, _⟩ | ⟨_, z⟩
      · exact ⟨ds, e⟩
      · exact ⟨a, z⟩
    have f2 : ∃ a', ρ[k]? = some (some (.own a')) := by
      rcases set_get e2 with ⟨rfl, _⟩ | ⟨_, z⟩
      · exact ⟨ds, e⟩
      · exact ⟨b, z⟩
    obtain ⟨a', f1⟩ := f1
    obtain ⟨b', f2⟩ := f2
    exact R.inj j k a' b' q f1 f2 e3 e4
theorem Rn.ownNew {g : Pl} {M0 : Addr → Prop} {H0 H H' : Hp} {σ : L2.St} {ρ : Rho} {b b' : Nat} {i : Nat} {ds : List D} {p : Addr} {vs : List V} (R : Rn g M0 H0 H σ ρ b) (hi : i < ρ.length) (np : H p = none) (k : KpM g.own H H') (iv : g.inv b' H') (eH : H' p = some (.lst vs)) (l : vs.length ≤ sizeLine) (r : RpAll (Mi true M0 σ ρ p) H' vs ds) :
    Rn g M0 H0 H' (σ.set i (some (.ref p))) (ρ.set i (some (.own ds))) b' ∧ Stp M0 σ ρ H (σ.set i (some (.ref p))) (ρ.set i (some (.own ds))) H' := by
  have mu : ∀ a, Mu true M0 (σ.set i (some (.ref p))) (ρ.set i (some (.own ds))) a → Mi true M0 σ ρ p a := fun a m => by
    rcases m with m | ⟨_, j, es', e1, e2⟩
    · exact .inl (.inl m)
    · rcases set_get e1 with ⟨rfl, _⟩ | ⟨n, e1⟩
      · rw [set_same (by rw [← R.len]; exact hi)] at e2
        cases e2
        exact .inr rfl
      · rw [set_other n] at e2
        exact .inl (.inr ⟨rfl, j, es', e1, e2⟩)
  have h0 : H0 p = none := by
    cases z : H0 p with
    | none => rfl
    | some o =>
      by_cases ow : g.own p
      · exact (R.dom p (R.pl p ow) np).elim
      · rw [R.kp _ _ ow z] at np; cases np
  have re : ∀ a, Mu true M0 (σ.set i (some (.ref p))) (ρ.set i (some (.own ds))) a → Mu true M0 σ ρ a ∨ H a = none := fun a m => by
    rcases mu a m with m | rfl
    · exact .inl m
    · exact .inr np
  have kp : KpM (Mu true M0 σ ρ) H H' := fun p o n e => k p o (fun z => n (.inl (R.pl p z))) e
  have kp2 : KpM (Mu true M0 (σ.set i (some (.ref p))) (ρ.set i (some (.own ds)))) H H' := fun p o n e => k p o (fun z => n (.inl (R.pl p z))) e
  have RU := R.up k iv
  refine ⟨⟨RU.kp, R.dom0, RU.dom, R.pl, iv, by rw [List.length_set, List.length_set]; exact R.len, fun j d e1 => ?_, fun j es' e1 => ?_, fun j v e1 => ?_, fun j e1 => ?_, fun j k a b q e1 e2 e3 e4 => ?_⟩, kp, re⟩
  · rcases set_get e1 with ⟨_, z⟩ | ⟨n, e1⟩
    · cases z
    · obtain ⟨v, a, b⟩ := R.dat j d e1
      exact ⟨v, by rw [set_other n]; exact a, (b.reM re).mono kp2⟩
  · rcases set_get e1 with ⟨rfl, z⟩ | ⟨n, e1⟩
    · cases z
      exact ⟨p, vs, set_same (by rw [← R.len]; exact hi), eH, h0, l, r.reM fun a m => .inl (mu a m)⟩
    · obtain ⟨q, us, a, b, c, l', r'⟩ := R.own j es' e1
      exact ⟨q, us, by rw [set_other n]; exact a, k _ _ (fun o => R.dom0 q (R.pl q o) c) b, c, l', (r'.reM re).mono kp2⟩
  · rcases set_get e1 with ⟨_, z⟩ | ⟨n, e1⟩
    · cases z
    · rw [set_other n]; exact R.raw j v e1
  · rcases set_get e1 with ⟨_, z⟩ | ⟨n, e1⟩
    · cases z
    · rw [set_other n]; exact R.pool j e1
  · have own : ∀ (m : Nat) (es : List D), ρ[m]? = some (some (.own es)) → σ[m]? = some (some (.ref q)) → q ≠ p := fun m es f1 f2 z => by
      obtain ⟨q', us, a, b, _⟩ := R.own m es f1
      rw [f2] at a
      cases a
      rw [z, np] at b
      cases b
    rcases set_get e1 with ⟨rfl, _⟩ | ⟨n1, f1⟩
    · rcases set_get e2 with ⟨rfl, _⟩ | ⟨n2, f2⟩
      · rfl
      · rw [set_same (by rw [← R.len]; exact hi)] at e3
        cases e3
        rw [set_other n2] at e4
        exact (own k b f2 e4 rfl).elim
    · rw [set_other n1] at e3
      rcases set_get e2 with ⟨rfl, _⟩ | ⟨n2, f2⟩
      · rw [set_same (by rw [← R.len]; exact hi)] at e4
        cases e4
        exact (own j a f1 e3 rfl).elim
      · rw [set_other n2] at e4
        exact R.inj j k a b q f1 f2 e3 e4
def swOwn (i : Nat) (f : WP D) : WP Out := ⟨fun ρ b Q => f.w ρ b fun d b' => ∃ ds, d = .list ds ∧ i < ρ.length ∧ Q (.nx (ρ.set i (some (.own ds)))) b', fun h z => f.m (fun d b' ⟨ds, e, l, y⟩ => ⟨ds, e, l, h _ _ y⟩) z⟩
theorem nS_own {st : Stmt} {i : Nat} {f : WP D} (h : PS X st (tAsg (tnN f) (gName i))) : PS X st (tSn (swOwn i f)) := h.wk fun Dn σ H q => by
  obtain ⟨g, M0, H0, ρ, b, R, q⟩ := q
  refine ⟨g, M0, H0, ρ, b, R, f.m (fun d b' ⟨ds, e, hi, q⟩ => ⟨ds, e, fun p vs H1 np k1 i1 eH l r => ?_⟩) q⟩
  obtain ⟨R1, s1⟩ := R.ownNew hi np k1 i1 eH l r
  exact q _ _ R1 s1
theorem nN_pure {e : Expr} {f : EF} (h : PE X e (tN f)) : PE X e (tnN (wP f)) := h.wk fun σ H Q q => by
  obtain ⟨g, M0, H0, ρ, b, R, d, e, ds, rfl, q⟩ := q
  refine ⟨_, H, _, ds, R.rs true, e, fun p vs H1 np s1 eH l r => q p vs H1 np (.of s1) (Pl.same R.iv s1) eH l (r.reM fun a m => ?_)⟩
  rcases m with m | rfl
  · exact .inl (.inl (.inl m))
  · exact .inl (.inr rfl)
theorem nN_lst {es : List Expr} {pos : Pos} {f : WP (List D)} (h : PA X es (tnA f)) : PE X (.List es pos) (tnN (wB f lstO)) := (pe_lst h).wk fun σ H Q q => by
  obtain ⟨g, M0, H0, ρ, b, R, q⟩ := q
  refine ⟨g, M0, H0, ρ, b, R, f.m (fun ds b1 ⟨d, e, ds', z, q⟩ vs H1 k1 i1 r1 => ?_) q⟩
  obtain ⟨l, rfl⟩ := iteS e
  cases z
  refine ⟨by rw [r1.len]; exact l, fun p np => q p vs _ ?_ (k1.tr (.of (smN np))) (Pl.same i1 (smN np)) upd_same (by rw [r1.len]; exact l) ((r1.reM fun a m => ?_).mono (.of (smN np)))⟩
  · cases z : H p with
    | none => rfl
    | some o =>
      by_cases ow : g.own p
      · exact (g.alive i1 ow np).elim
      · rw [k1 _ _ ow z] at np; cases np
  · rcases m with m | rfl
    · exact .inl m
    · exact .inr np
def swApp (i : Nat) (f : WP (List D)) : WP Out := ⟨fun ρ b Q => ∃ ds, ρ[i]? = some (some (.own ds)) ∧ f.w ρ b fun es b' => ∃ d, es = [d] ∧ ds.length < sizeLine ∧ Q (.nx (ρ.set i (some (.own (ds ++ [d]))))) b', fun h ⟨ds, e, z⟩ => ⟨ds, e, f.m (fun es b' ⟨d, e2, l, y⟩ => ⟨d, e2, l, h _ _ y⟩) z⟩⟩
theorem nS_app {st : Stmt} {i : Nat} {f : WP (List D)} (h : PS X st (tDrop (tBM K "list" rAppend (tVar i) (tnA f)))) : PS X st (tSn (swApp i f)) := h.wk fun Dn σ H q => by
  obtain ⟨g, M0, H0, ρ, b, R, ds, z, q⟩ := q
  obtain ⟨p, vs, a, c, h0, l, r⟩ := R.own i ds z
  refine ⟨.ref p, a, .inl ⟨rfl, _, SqL.of c⟩, g, M0, H0, ρ, b, R, f.m (fun es b1 ⟨d, e, l2, q⟩ us H1 k1 i1 r1 => ?_) q⟩
  subst e
  match us, r1 with
  | [u], .cons r1 .nil =>
    have hl : vs.length < sizeLine := by rw [r.len]; exact l2
    have c1 := k1 _ _ (fun o => R.dom0 p (R.pl p o) h0) c
    refine ⟨p, vs, _, rfl, rfl, c1, hl, ?_⟩
    obtain ⟨R1, S1⟩ := (R.up k1 i1).ownSet z a c1 (vs' := vs ++ [u]) (by rw [List.length_append]; exact hl) ((r.mono fun p o n e => k1 p o (fun z => n (.inl (R.pl p z))) e).app (.cons r1 .nil))
    exact q _ _ R1 ((R.stp k1).trans S1)
def swDrop (f : WP D) : WP Out := ⟨fun ρ b Q => f.w ρ b fun _ b' => Q (.nx ρ) b', fun h z => f.m (fun d b' y => h _ _ y) z⟩
theorem nS_expr {st : Stmt} {f : WP D} (h : PS X st (tDrop (tn f))) : PS X st (tSn (swDrop f)) := h.wk fun Dn σ H q => by
  obtain ⟨g, M0, H0, ρ, b, R, q⟩ := q
  exact ⟨g, M0, H0, ρ, b, R, f.m (fun d b' q v H1 k1 i1 r1 => q σ H1 (R.up k1 i1) (R.stp k1)) q⟩
end
/-! ### a def that draws -/
def startP (n : Nat) (ds : List D) : Rho := some .pool :: (ds.map (fun d => some (.dat d)) ++ List.replicate (n - (ds.length + 1)) none)
theorem RpAll.startN {g : Pl} {M : Addr → Prop} {H : Hp} {N : List Str} {vs : List V} {ds : List D} {b : Nat} (dm : Dom M H) (pl : ∀ p, g.own p → M p) (iv : g.inv b H) (r : RpAll M H vs ds) : Rn g M H H (L2.start N (g.h :: vs)) (startP N.length ds) b := by
  have get : ∀ (i : Nat) (x : LV), (startP N.length ds)[i]? = some (some x) → (i = 0 ∧ x = .pool) ∨ ∃ j d, i = j + 1 ∧ ds[j]? = some d ∧ x = .dat d := fun i x e => by
    cases i with
    | zero => cases e; exact .inl ⟨rfl, rfl⟩
    | succ j =>
      have e : (ds.map (fun d => some (LV.dat d)) ++ List.replicate (N.length - (ds.length + 1)) none)[j]? = some (some x) := e
      rw [List.getElem?_append] at e
      split at e
      · rw [List.getElem?_map] at e
        cases z : ds[j]? with
        | none => rw [z] at e; cases e
        | some d => rw [z] at e; cases e; exact .inr ⟨j, d, rfl, z, rfl⟩
      · rw [List.getElem?_replicate] at e
        split at e <;> cases e
  have mu : ∀ a, Mu true M (L2.start N (g.h :: vs)) (startP N.length ds) a → M a ∨ H a = none := fun a m => by
    rcases m with m | ⟨_, j, es, e, _⟩
    · exact .inl m
    · rcases get j _ e with ⟨_, z⟩ | ⟨_, _, _, _, z⟩ <;> cases z
  refine ⟨.refl, dm, dm, pl, iv, ?_, fun i d e => ?_, fun i es e => ?_, fun i v e => ?_, fun i e => ?_, fun i j a b p e => ?_⟩
  · unfold startP L2.start
    simp [r.len]
  · rcases get i _ e with ⟨_, z⟩ | ⟨j, d', rfl, ed, z⟩
    · cases z
    · cases z
      obtain ⟨v, a, b⟩ := r.get ed
      refine ⟨v, ?_, b.reM mu⟩
      unfold L2.start
      rw [List.map_cons, List.cons_append, List.getElem?_cons_succ, List.getElem?_append, if_pos (by rw [List.length_map]; exact (List.getElem?_eq_some_iff.mp a).1), List.getElem?_map, a]
      rfl
  · rcases get i _ e with ⟨_, z⟩ | ⟨_, _, _, _, z⟩ <;> cases z
  · rcases get i _ e with ⟨_, z⟩ | ⟨_, _, _, _, z⟩ <;> cases z
  · rcases get i _ e with ⟨rfl, _⟩ | ⟨_, _, _, _, z⟩
    · rfl
    · cases z
  · rcases get i _ e with ⟨_, z⟩ | ⟨_, _, _, _, z⟩ <;> cases z
def TellsN (Q : D → Nat → Prop) : Out → Nat → Prop
  | .rt d, b => Q d b
  | .nx _, b => Q .none b
  | _, _ => False
theorem okFnN {P : Program} {w : World} {K : PySem.W.Frag} {mg : Str → Option Value} {base : Heap} {x qual : Str} {st : Stmt} {f : Addr} {fd : FuncData} {N ps : List Str} {k n : Nat} {F0 : GF} (F : Fun K x qual st f fd) (S : FnScope N ps (defScope st)) (hn : n + 1 = ps.length)
    (walk : ∀ (cdv : Value) (A : Around) (outer : List Env) (s : Shared) (H : Hp) (E : XK), Room k (A.deeper (envOfC qual (defScope st) s.heap.objs.size f cdv)) →
      ∃ fS, PSs (cxOf CX0 P w K mg base N qual (defScope st) f cdv A outer s H E).nox (defBody st) (tSn fS) ∧ ∀ ds b Q, ds.length = n → F0.f ds b Q → fS.w (startP N.length ds) b (TellsN Q)) :
    FnOk P w K mg base CX0 (k + 1) f fd ps (spN n F0) := by
  refine F.ok S (fun vs H Q E h => ?_) (fun cdv A outer s H vs Q E hr h => ?_)
  · obtain ⟨g, M, ws, ds, b, rfl, _, _, _, r, l, _⟩ := h
    rw [← hn, ← l, ← r.len]
    rfl
  · obtain ⟨g, M, ws, ds, b, rfl, pl, dm, iv, r, l, q⟩ := h
    obtain ⟨fS, hS, hw⟩ := walk cdv A outer s H E hr
    refine ⟨_, hS, g, M, H, _, b, r.startN dm pl iv, fS.m (fun o b' t => ?_) (hw ds b _ l q)⟩
    cases o with
    | nx ρ' => exact fun σ' H' R s => (show ∀ v H', KpM g.own H H' → g.inv b' H' → Rp M H' v .none → Q v H' from t) _ _ R.kp R.iv .non
    | rt d' => exact t
    | bk ρ' => exact t.elim
    | ct ρ' => exact t.elim
end Dl
namespace Rt
open PySem PySem.Spec PyProof.Rows L2
section
variable {X : Cx}
/-! ### 'm' * n -/
theorem fold_app : ∀ (l : List (Array Nat)) (b : Array Nat), (l.foldl (· ++ ·) b).toList = b.toList ++ (l.map Array.toList).flatten
  | [], b => by simp
  | x :: r, b => by
    show (r.foldl (· ++ ·) (b ++ x)).toList = _
    rw [fold_app r (b ++ x)]
    simp
def rRepS : R2 := fun x y H Q => ∃ (z : Str) (n : Int), x = .str z ∧ y = .int n ∧ 1 ≤ n ∧ n ≤ 100 ∧ 0 < z.length ∧ z.length ≤ 100 ∧ ∀ r : Str, r.cps.toList = (List.replicate n.toNat z.cps.toList).flatten → r.length = n.toNat * z.length → Q (.str r) H
theorem op_repS : OpR X (binaryOp .Mult) rRepS := by
  intro pn s σ H x y v u Q I rx ry h
  obtain ⟨z, n, rfl, rfl, h1, h2, h3, h4, q⟩ := h
  obtain ⟨t, rfl⟩ := rx
  obtain ⟨t', rfl⟩ := ry
  have hl : z.length * n.toNat ≤ 10000 := Nat.le_trans (Nat.mul_le_mul h4 (show n.toNat ≤ 100 by omega)) (by decide)
  have el : ∀ r : Str, r.cps.toList = (List.replicate n.toNat z.cps.toList).flatten → r.length = n.toNat * z.length := fun r e => by
    show r.cps.size = _
    rw [← Array.length_toList, e, List.length_flatten, List.map_replicate, List.sum_replicate_nat]
    show n.toNat * z.cps.toList.length = n.toNat * z.cps.size
    rw [Array.length_toList]
  refine PySem.P.mul_str ?_ (fun _ _ => ?_) (fun _ _ => ?_) ?_
  · rw [decide_eq_false (by omega), decide_eq_false (by omega)]; rfl
  · have : (100 : Int) ≤ (2 ^ 63 - 1) / n := (Int.le_ediv_iff_mul_le (by omega)).mpr (by omega)
    omega
  · show decide (z.length * n.toNat > sizeLine) = false
    exact decide_eq_false (by have := sz (n := z.length * n.toNat) (by omega); omega)
  · rw [if_neg (by omega)]
    by_cases e : n = 1
    · subst e
      rw [if_pos (by rfl)]
      have e1 : z.cps.toList = (List.replicate (1 : Int).toNat z.cps.toList).flatten := by simp
      exact ⟨.str z, H, I, ⟨_, rfl⟩, q z e1 (el z e1)⟩
    · rw [if_neg (by simp [e]; omega)]
      have e1 : (⟨(List.replicate n.toNat z.cps).foldl (· ++ ·) #[]⟩ : Str).cps.toList = (List.replicate n.toNat z.cps.toList).flatten := by
        show ((List.replicate n.toNat z.cps).foldl (· ++ ·) #[]).toList = _
        rw [fold_app, List.map_replicate]
        rfl
      refine ⟨?_, ⟨.str _, H, I.tok _, ⟨_, rfl⟩, q _ e1 (el _ e1)⟩⟩
      rw [el _ e1, Nat.mul_comm]
      exact sz (by omega)
/-! ### min, max of a tuple of ints -/
theorem holds_ints {h : Heap} : ∀ {ns : List Int} {us : List Value}, Vals (ns.map V.int) us → PySem.W.HoldAll h us ns
  | [], _, .nil => .nil
  | n :: r, _, .cons a t => by
    obtain ⟨tk, rfl⟩ := a
    exact .cons ⟨_, .int n tk⟩ (holds_ints t)
theorem minOf_le : ∀ (xs : List Int) (x : Int), PySem.W.minOf x xs ∈ x :: xs ∧ ∀ y ∈ x :: xs, PySem.W.minOf x xs ≤ y
  | [], x => ⟨List.mem_cons_self, fun y h => (by
    have e : y = x := by simpa using h
    subst e
    exact Int.le_refl _)⟩
  | z :: r, x => by
    have ih := minOf_le r (if z < x then z else x)
    have e : PySem.W.minOf x (z :: r) = PySem.W.minOf (if z < x then z else x) r := by
      show r.foldl _ (if decide (z < x) = true then z else x) = r.foldl _ (if z < x then z else x)
      simp only [decide_eq_true_eq]
    rw [e]
    have hm := ih.2 _ List.mem_cons_self
    have hx : (if z < x then z else x) ≤ x := by split <;> omega
    have hz : (if z < x then z else x) ≤ z := by split <;> omega
    refine ⟨?_, fun y h => ?_⟩
    · rcases List.mem_cons.mp ih.1 with h | h
      · rw [h]; split <;> simp
      · exact List.mem_cons_of_mem _ (List.mem_cons_of_mem _ h)
    · rcases List.mem_cons.mp h with h | h
      · rw [h]; exact Int.le_trans hm hx
      · rcases List.mem_cons.mp h with h | h
        · rw [h]; exact Int.le_trans hm hz
        · exact ih.2 y (List.mem_cons_of_mem _ h)
theorem maxOf_ge : ∀ (xs : List Int) (x : Int), PySem.W.maxOf x xs ∈ x :: xs ∧ ∀ y ∈ x :: xs, y ≤ PySem.W.maxOf x xs
  | [], x => ⟨List.mem_cons_self, fun y h => (by
    have e : y = x := by simpa using h
    subst e
    exact Int.le_refl _)⟩
  | z :: r, x => by
    have ih := maxOf_ge r (if x < z then z else x)
    have e : PySem.W.maxOf x (z :: r) = PySem.W.maxOf (if x < z then z else x) r := by
      show r.foldl _ (if decide (x < z) = true then z else x) = r.foldl _ (if x < z then z else x)
      simp only [decide_eq_true_eq]
    rw [e]
    have hm := ih.2 _ List.mem_cons_self
    have hx : x ≤ (if x < z then z else x) := by split <;> omega
    have hz : z ≤ (if x < z then z else x) := by split <;> omega
    refine ⟨?_, fun y h => ?_⟩
    · rcases List.mem_cons.mp ih.1 with h | h
      · rw [h]; split <;> simp
      · exact List.mem_cons_of_mem _ (List.mem_cons_of_mem _ h)
    · rcases List.mem_cons.mp h with h | h
      · rw [h]; exact Int.le_trans hx hm
      · rcases List.mem_cons.mp h with h | h
        · rw [h]; exact Int.le_trans hz hm
        · exact ih.2 y (List.mem_cons_of_mem _ h)
def rMinT (K : PySem.W.Frag) : List V → Hp → VK → Prop := fun vs H Q => ∃ (a : Addr) (ns : List Int), vs = [V.ref a] ∧ SqT K H a (ns.map V.int) ∧ 0 < ns.length ∧ ∀ m, m ∈ ns → (∀ y, y ∈ ns → m ≤ y) → Q (.int m) H
def rMaxT (K : PySem.W.Frag) : List V → Hp → VK → Prop := fun vs H Q => ∃ (a : Addr) (ns : List Int), vs = [V.ref a] ∧ SqT K H a (ns.map V.int) ∧ 0 < ns.length ∧ ∀ m, m ∈ ns → (∀ y, y ∈ ns → y ≤ m) → Q (.int m) H
theorem cr_minT (hc : X.calm = true) (hu : X.A.units + 64 < cLine) : CallR X (.builtin "min") (rMinT X.K) := by
  intro pn s σ H vs us Q I r h
  obtain ⟨a, ns, rfl, hs, hne, q⟩ := h
  obtain ⟨its, rv, hl, _⟩ := I.tuple hs
  rw [Vals.ref1 r]
  cases ns with
  | nil => exact absurd hne (by decide)
  | cons x xs =>
    have hH : PySem.W.HoldAll s.heap its.toArray.toList (x :: xs) := holds_ints (ns := x :: xs) rv
    refine PySem.W.min_tuple_datum (I.ok.hd hc) hl hH (by show X.A.units + 1 + 0 < cLine; omega) fun i v h' tk hv ho hk => ?_
    obtain ⟨as, ho⟩ := ho
    cases ho with
    | int _ t => exact ⟨.int _, H, I.kept hk, ⟨_, rfl⟩, q _ (minOf_le xs x).1 (minOf_le xs x).2⟩
theorem cr_maxT (hc : X.calm = true) (hu : X.A.units + 64 < cLine) : CallR X (.builtin "max") (rMaxT X.K) := by
  intro pn s σ H vs us Q I r h
  obtain ⟨a, ns, rfl, hs, hne, q⟩ := h
  obtain ⟨its, rv, hl, _⟩ := I.tuple hs
  rw [Vals.ref1 r]
  cases ns with
  | nil => exact absurd hne (by decide)
  | cons x xs =>
    have hH : PySem.W.HoldAll s.heap its.toArray.toList (x :: xs) := holds_ints (ns := x :: xs) rv
    refine PySem.W.max_tuple_datum (I.ok.hd hc) hl hH (by show X.A.units + 1 + 0 < cLine; omega) fun i v h' tk hv ho hk => ?_
    obtain ⟨as, ho⟩ := ho
    cases ho with
    | int _ t => exact ⟨.int _, H, I.kept hk, ⟨_, rfl⟩, q _ (maxOf_ge xs x).1 (maxOf_ge xs x).2⟩
end
end Rt
namespace Dl
open PySem PySem.Spec PyProof.Rows L2 Rt
def lenD : List D → Option D
  | [.tuple ds] => some (.int ds.length)
  | [.list ds] => some (.int ds.length)
  | [.str z] => some (.int z.length)
  | _ => none
def boolsD : List D → Option (List Bool)
  | [] => some []
  | .bool b :: ds => (boolsD ds).map (b :: ·)
  | _ :: _ => none
def intsD : List D → Option (List Int)
  | [] => some []
  | .int b :: ds => (intsD ds).map (b :: ·)
  | _ :: _ => none
theorem RpAll.bools {M : Addr → Prop} {H : Hp} : ∀ {vs : List V} {ds : List D} {bs : List Bool}, RpAll M H vs ds → boolsD ds = some bs → vs = bs.map V.bl
  | _, _, _, .nil, e => by cases e; rfl
  | _, _, _, .cons (d := .bool b) h t, e => by
    obtain ⟨r, er, rfl⟩ := some_map e
    cases h
    rw [t.bools er]
    rfl
  | _, _, _, .cons (d := .none) h t, e => nomatch e
  | _, _, _, .cons (d := .int _) h t, e => nomatch e
  | _, _, _, .cons (d := .str _) h t, e => nomatch e
  | _, _, _, .cons (d := .list _) h t, e => nomatch e
  | _, _, _, .cons (d := .tuple _) h t, e => nomatch e
  | _, _, _, .cons (d := .dict _) h t, e => nomatch e
theorem RpAll.ints {M : Addr → Prop} {H : Hp} : ∀ {vs : List V} {ds : List D} {bs : List Int}, RpAll M H vs ds → intsD ds = some bs → vs = bs.map V.int
  | _, _, _, .nil, e => by cases e; rfl
  | _, _, _, .cons (d := .int b) h t, e => by
    obtain ⟨r, er, rfl⟩ := some_map e
    cases h
    rw [t.ints er]
    rfl
  | _, _, _, .cons (d := .none) h t, e => nomatch e
  | _, _, _, .cons (d := .bool _) h t, e => nomatch e
  | _, _, _, .cons (d := .str _) h t, e => nomatch e
  | _, _, _, .cons (d := .list _) h t, e => nomatch e
  | _, _, _, .cons (d := .tuple _) h t, e => nomatch e
  | _, _, _, .cons (d := .dict _) h t, e => nomatch e
def allD : List D → Option D
  | [.list ds] => (boolsD ds).map fun bs => .bool (bs.all id)
  | _ => none
def anyD : List D → Option D
  | [.list ds] => (boolsD ds).map fun bs => .bool (bs.any id)
  | _ => none
def tupD : List D → Option D
  | [.list ds] => some (.tuple ds)
  | [.tuple ds] => some (.tuple ds)
  | _ => none
def lisD : List D → Option D
  | [.list ds] => some (.list ds)
  | [.tuple ds] => some (.list ds)
  | _ => none
def intD : List D → Option D
  | [.int i] => some (.int i)
  | [.bool b] => some (.int (if b = true then 1 else 0))
  | _ => none
def min2D : List D → Option D
  | [.int i, .int j] => some (.int (if j < i then j else i))
  | _ => none
def max2D : List D → Option D
  | [.int i, .int j] => some (.int (if j > i then j else i))
  | _ => none
def minL : List Int → Option Int
  | [] => none
  | x :: xs => some (xs.foldl min x)
def maxL : List Int → Option Int
  | [] => none
  | x :: xs => some (xs.foldl max x)
def absD : List D → Option D
  | [.int i] => some (.int (if i < 0 then -i else i))
  | _ => none
def sumD : List D → Option D
  | [.list ds] => (intsD ds).map fun ns => .int ns.sum
  | _ => none
section
variable {X : Cx}
theorem c_len : CallR X (.builtin "len") (rC lenD) := by
  intro pn s σ H xs us Q I r h
  obtain ⟨M, ds, d, dm, ra, e, q⟩ := h
  match ds, ra, e with
  | [.tuple ds], .cons (@Rp.tup _ _ a xs1 _ t n l r) .nil, e =>
    cases e
    exact call_len pn s σ H _ us Q I ‹_› ⟨.ref a, xs1.length, rfl, .inr ⟨_, t.sq, rfl⟩, by rw [r.len]; exact q _ _ (Same.refl _) (.int _)⟩
  | [.list ds], .cons (@Rp.lst _ _ a xs1 _ t n l r) .nil, e =>
    cases e
    exact call_len pn s σ H _ us Q I ‹_› ⟨.ref a, xs1.length, rfl, .inl ⟨_, SqL.of t, rfl⟩, by rw [r.len]; exact q _ _ (Same.refl _) (.int _)⟩
  | [.str z], .cons (.str _ l) .nil, e =>
    cases e
    exact call_len pn s σ H _ us Q I ‹_› ⟨.str z, z.length, rfl, ⟨l, rfl⟩, q _ _ (Same.refl _) (.int _)⟩
theorem c_all (hc : X.calm = true) : CallR X (.builtin "all") (rC allD) := by
  intro pn s σ H xs us Q I r h
  obtain ⟨M, ds, d, dm, ra, e, q⟩ := h
  match ds, ra, e with
  | [.list ds], .cons (.lst t n l r) .nil, e =>
    obtain ⟨bs, eb, rfl⟩ := some_map e
    exact cr_all hc pn s σ H _ us Q I ‹_› ⟨_, bs, rfl, by rw [← r.bools eb]; exact SqL.of t, q _ _ (Same.refl _) (.bl _)⟩
theorem c_any (hc : X.calm = true) : CallR X (.builtin "any") (rC anyD) := by
  intro pn s σ H xs us Q I r h
  obtain ⟨M, ds, d, dm, ra, e, q⟩ := h
  match ds, ra, e with
  | [.list ds], .cons (.lst t n l r) .nil, e =>
    obtain ⟨bs, eb, rfl⟩ := some_map e
    exact cr_any hc pn s σ H _ us Q I ‹_› ⟨_, bs, rfl, by rw [← r.bools eb]; exact SqL.of t, q _ _ (Same.refl _) (.bl _)⟩
theorem c_sum (hc : X.calm = true) : CallR X (.builtin "sum") (rC sumD) := by
  intro pn s σ H xs us Q I r h
  obtain ⟨M, ds, d, dm, ra, e, q⟩ := h
  match ds, ra, e with
  | [.list ds], .cons (.lst t n l r) .nil, e =>
    obtain ⟨bs, eb, rfl⟩ := some_map e
    exact cr_sum hc pn s σ H _ us Q I ‹_› ⟨_, bs, rfl, by rw [← r.ints eb]; exact SqL.of t, q _ _ (Same.refl _) (.int _)⟩
theorem c_tuple : CallR X (.type "tuple") (rC tupD) := by
  intro pn s σ H xs us Q I r h
  obtain ⟨M, ds, d, dm, ra, e, q⟩ := h
  match ds, ra, e with
  | [.list ds], .cons (.lst t n l r) .nil, e =>
    cases e
    exact call_tupF pn s σ H _ us Q I ‹_› ⟨_, _, rfl, SqL.of t, fun p o H' np od eH => by
      subst eH
      exact q _ _ (smN np) (.tup ⟨o, upd_same, od⟩ (dm.not np) l (r.mono (.of (smN np))))⟩
  | [.tuple ds], .cons (.tup t n l r) .nil, e =>
    cases e
    exact call_tuple_of pn s σ H _ us Q I ‹_› ⟨_, _, rfl, .inr ⟨t.sq, q _ _ (Same.refl _) (.tup t n l r)⟩⟩
theorem c_list : CallR X (.type "list") (rC lisD) := by
  intro pn s σ H xs us Q I r h
  obtain ⟨M, ds, d, dm, ra, e, q⟩ := h
  match ds, ra, e with
  | [.list ds], .cons (.lst t n l r) .nil, e =>
    cases e
    exact call_list_of pn s σ H _ us Q I ‹_› ⟨_, _, rfl, .inl (SqL.of t), fun p np => q _ _ (smN np) (.lst upd_same (dm.not np) l (r.mono (.of (smN np))))⟩
  | [.tuple ds], .cons (.tup t n l r) .nil, e =>
    cases e
    exact call_list_of pn s σ H _ us Q I ‹_› ⟨_, _, rfl, .inr t.sq, fun p np => q _ _ (smN np) (.lst upd_same (dm.not np) l (r.mono (.of (smN np))))⟩
theorem c_int : CallR X (.type "int") (rC intD) := by
  intro pn s σ H xs us Q I r h
  obtain ⟨M, ds, d, dm, ra, e, q⟩ := h
  match ds, ra, e with
  | [.int i], .cons (.int _) .nil, e => cases e; exact call_int1 pn s σ H _ us Q I ‹_› (.inl ⟨_, rfl, q _ _ (Same.refl _) (.int _)⟩)
  | [.bool i], .cons (.bl _) .nil, e => cases e; exact call_int1 pn s σ H _ us Q I ‹_› (.inr ⟨_, rfl, q _ _ (Same.refl _) (.int _)⟩)
theorem c_min2 (hc : X.calm = true) : CallR X (.builtin "min") (rC min2D) := by
  intro pn s σ H xs us Q I r h
  obtain ⟨M, ds, d, dm, ra, e, q⟩ := h
  match ds, ra, e with
  | [.int i, .int j], .cons (.int _) (.cons (.int _) .nil), e => cases e; exact call_min2 hc pn s σ H _ us Q I ‹_› ⟨_, _, rfl, q _ _ (Same.refl _) (.int _)⟩
theorem c_max2 (hc : X.calm = true) : CallR X (.builtin "max") (rC max2D) := by
  intro pn s σ H xs us Q I r h
  obtain ⟨M, ds, d, dm, ra, e, q⟩ := h
  match ds, ra, e with
  | [.int i, .int j], .cons (.int _) (.cons (.int _) .nil), e => cases e; exact call_max2 hc pn s σ H _ us Q I ‹_› ⟨_, _, rfl, q _ _ (Same.refl _) (.int _)⟩
theorem c_abs : CallR X (.builtin "abs") (rC absD) := by
  intro pn s σ H xs us Q I r h
  obtain ⟨M, ds, d, dm, ra, e, q⟩ := h
  match ds, ra, e with
  | [.int i], .cons (.int _) .nil, e => cases e; exact call_abs pn s σ H _ us Q I ‹_› ⟨_, rfl, q _ _ (Same.refl _) (.int _)⟩
theorem dE_callB {x : Str} {p pos : Pos} {e : Expr} {es : List Expr} {id : String} {g : List D → Option D} {f : Rho → Option (List D)} {μ : Bool} (c : CallR X (.builtin id) (rC g)) (hg : Gl X x) (hm : X.mg x = none) (hv : bootBuiltins x = some (.builtin id)) (ha : PA X (e :: es) (tA μ f))
    (hn : x ≠ "__name__" := by decide) (hdb : (x == ("__debug__" : Str)) = false := by decide) (he : starEach (e :: es) X.env = (false, eval e X.env) :: starEach es X.env := by rfl) (hpl : (backTo pos (starEach es X.env)).any (·.1) = false := by rfl) :
    PE X (.Call (.Name x p) (e :: es) [] pos) (tD μ (eCall g f)) := (pe_callB c hg hm hv ha hn hdb he hpl).wk fun _ _ _ q => dCall q
theorem dE_callTy {x : Str} {p pos : Pos} {e : Expr} {es : List Expr} {T : String} {g : List D → Option D} {f : Rho → Option (List D)} {μ : Bool} (c : CallR X (.type T) (rC g)) (hg : Gl X x) (hm : X.mg x = none) (hv : bootBuiltins x = some (.type T)) (ha : PA X (e :: es) (tA μ f))
    (hn : x ≠ "__name__" := by decide) (hdb : (x == ("__debug__" : Str)) = false := by decide) (he : starEach (e :: es) X.env = (false, eval e X.env) :: starEach es X.env := by rfl) (hpl : (backTo pos (starEach es X.env)).any (·.1) = false := by rfl) :
    PE X (.Call (.Name x p) (e :: es) [] pos) (tD μ (eCall g f)) := (pe_callTy c hg hm hv ha hn hdb he hpl).wk fun _ _ _ q => dCall q
/-! isinstance -/
def tyN : D → String
  | .none => "NoneType"
  | .bool _ => "bool"
  | .int _ => "int"
  | .str _ => "str"
  | .list _ => "list"
  | .tuple _ => "tuple"
  | .dict _ => "dict"
def isTy (T : String) (d : D) : Option D := (kitB (tyN d) T).map .bool
theorem Rp.ty {K : PySem.W.Frag} {M : Addr → Prop} {H : Hp} {v : V} {d : D} (r : Rp M H v d) : TyX K H v (.type (tyN d)) := by
  cases r with
  | non => exact .base .non
  | bl b => exact .base (.bl b)
  | int i => exact .base (.int i)
  | str x hx => exact .base (.str x)
  | tup t n l r => obtain ⟨o, e, _⟩ := t; exact .fTuple e
  | lst t n l r => exact .base (.lst t)
  | dic t n => exact .base (.dK t)
theorem dE_isi {p pos : Pos} {e e2 : Expr} {T : String} {f : EF} {μ : Bool} (h : PE X e (tD μ f)) (hT : PE X e2 (tC (.ty T))) (hg : Gl X "isinstance") (hm : X.mg "isinstance" = none) (hv : bootBuiltins "isinstance" = some (.builtin "isinstance"))
    (he : starEach (e :: [e2]) X.env = (false, eval e X.env) :: starEach [e2] X.env := by rfl) (he2 : starEach (e2 :: []) X.env = (false, eval e2 X.env) :: starEach [] X.env := by rfl) (hpl : (backTo pos (starEach [e2] X.env)).any (·.1) = false := by rfl) :
    PE X (.Call (.Name "isinstance" p) [e, e2] [] pos) (tD μ (e1 (isTy T) f)) := (pe_callB call_isi hg hm hv (pa_cons h (pa_cons hT pa_nil he2) he) (by decide) (by decide) he hpl).wk fun σ H Q q => by
  obtain ⟨M0, H0, ρ, d, R, e, q⟩ := q
  obtain ⟨d1, e1, e⟩ := some_bind e
  obtain ⟨b, eb, rfl⟩ := some_map e
  exact ⟨M0, H0, ρ, d1, R, e1, fun v H1 s1 r1 => ⟨v, .ty T, .type (tyN d1), .type T, b, rfl, .ty T, r1.ty, kit_ty eb, q _ _ s1 (.bl _)⟩⟩
/-! signs of a text, one by one -/
def strL (z : Str) : List D := z.cps.toList.map fun c => .str ⟨#[c]⟩
def itStr (f : EF) : Rho → Option (List D) := fun ρ => (f ρ).bind fun d => match d with
  | .str z => some (strL z)
  | _ => none
theorem dI_str {tg e : Expr} {f : EF} {μ : Bool} (h : PE X e (tD μ f)) : PI X tg e (iD μ false (itStr f)) := (pi_str h).wk fun σ H R q => by
  obtain ⟨M0, H0, ρ, items, Rr, e, q⟩ := q
  obtain ⟨d, ed, e⟩ := some_bind e
  refine ⟨M0, H0, ρ, d, Rr, ed, fun v H1 s1 r1 => ?_⟩
  cases r1 <;> try (cases e; done)
  rename_i z l
  cases e
  have hl : (strL z).length = z.cps.size := by unfold strL; rw [List.length_map, Array.length_toList]
  refine ⟨z, rfl, q _ _ s1 fun M' hM => ⟨⟨_, _, by rw [hl]; exact walk_str, fun _ _ => trivial, fun i v Ha Hb k y => ?_⟩, by rw [hl]; exact l⟩⟩
  obtain ⟨rfl, c, ec, rfl⟩ := y
  refine ⟨.str ⟨#[c]⟩, ?_, Same.refl _, .inl (.str _ (show 1 ≤ sizeLine by decide))⟩
  unfold strL
  rw [List.getElem?_map, Array.getElem?_toList, ec]
  rfl
/-! tuple(range(n)), t * n -/
def tTupRg (te : L2.St → Hp → (Int → Int → Hp → Prop) → Prop) : TE := fun σ H Q => te σ H fun a b H1 => RgOk a b ∧ ∀ p H', H1 p = none → Same H1 H' → TupF H' p (rgV a b) → Q (.ref p) H'
theorem pe_tupRg {e : Expr} {te : L2.St → Hp → (Int → Int → Hp → Prop) → Prop} {p pos : Pos} (hc : X.calm = true) (hg : Gl X "tuple") (hm : X.mg "tuple" = none) (he : PRg X e te) (na : starEach [e] X.env = (false, eval e X.env) :: starEach [] X.env := by rfl) :
    PE X (.Call (.Name "tuple" p) [e] [] pos) (tTupRg te) := ⟨fun pn s σ H Q I h => Call_ (ld_blt I hg hm boot_tuple (callWith_type1 (args_cons (thn (he pn s σ H _ I h) fun x s1 ⟨r, a, b, t, u, v, H1, ex, hr, I1, ok, q⟩ => args_nil (by
    subst ex
    obtain ⟨b1, b2, b3, b4, b5⟩ := ok
    refine call_tuple_range (I1.ok.hd hc) hr (small_one b1 b2 b3 b4) (rangeSize_nat a b) b5 fun h' tk acc hk hi => ?_
    have J : L2.Inv X pn σ H1 { s1 with heap := h', toks := tk } := I1.kept (t' := tk) hk
    have J2 := Inv.tupF J (vals_rg hi) (by rw [rgV_length]; exact Nat.le_trans b5 (by decide))
    have fr := J.hok.fresh (Nat.le_refl h'.objs.size)
    rw [Array.toArray_toList] at J2
    exact ⟨.ref h'.objs.size, _, J2, rfl, q _ _ fr (smN fr) ⟨_, upd_same, rfl⟩⟩)) na) na) (by decide) (by decide)) rfl⟩
def eTupRg (f : EF) : EF := fun ρ => (f ρ).bind fun d => match d with
  | .int n => if -(2 ^ 62) ≤ n ∧ n < 2 ^ 20 then some (.tuple (rgD 0 n.toNat)) else none
  | _ => none
theorem rgV_rp {M : Addr → Prop} {H : Hp} (n : Int) : RpAll M H (rgV 0 n) (rgD 0 n.toNat) := by
  unfold rgV rgD
  rw [Int.sub_zero]
  induction (List.range n.toNat) with
  | nil => exact .nil
  | cons i r ih => exact .cons (.int _) ih
theorem dE_tupRg {e : Expr} {p pos p2 pos2 : Pos} {f : EF} {μ : Bool} (hc : X.calm = true) (hg : Gl X "tuple") (hm : X.mg "tuple" = none) (hg2 : Gl X "range") (hm2 : X.mg "range" = none) (h : PE X e (tD μ f)) (na : starEach [(Expr.Call (.Name "range" p2) [e] [] pos2)] X.env = (false, eval (Expr.Call (.Name "range" p2) [e] [] pos2) X.env) :: starEach [] X.env := by rfl) (nb : starEach [e] X.env = [(false, eval e X.env)] := by rfl) :
    PE X (.Call (.Name "tuple" p) [.Call (.Name "range" p2) [e] [] pos2] [] pos) (tD μ (eTupRg f)) := (pe_tupRg hc hg hm (prg_1 hg2 hm2 h nb) na).wk fun σ H Q q => by
  obtain ⟨M0, H0, ρ, d, R, e, q⟩ := q
  obtain ⟨d1, e1, e⟩ := some_bind e
  refine ⟨M0, H0, ρ, d1, R, e1, fun v H1 s1 r1 => ?_⟩
  cases r1 <;> try (cases e; done)
  rename_i n
  obtain ⟨l, rfl⟩ := iteS e
  refine ⟨n, rfl, ⟨by decide, by decide, l.1, by omega, by omega⟩, fun a H2 np s2 t => q _ _ (s1.trans s2) (.tup t (((R.mono s1).domu μ).not np) (by rw [rgV_length]; exact szR (by omega)) (rgV_rp n))⟩
/-- t * k -/
def rRepF : R2 := fun x y H Q => ∃ l k xs, x = .ref l ∧ y = .int k ∧ TupF H l xs ∧ xs ≠ [] ∧ 1 ≤ k ∧ k ≤ 1000 ∧ xs.length ≤ 1000 ∧ ∀ p H', (H p = none ∨ p = l) → Same H H' → TupF H' p (List.replicate k.toNat xs).flatten → Q (.ref p) H'
theorem arr_fold {α : Type} : ∀ (l : List (Array α)) (b : Array α), (l.foldl (fun x1 x2 => x1 ++ x2) b).toList = b.toList ++ (l.map Array.toList).flatten
  | [], b => by simp
  | a :: l, b => by
    rw [List.foldl_cons, arr_fold l, Array.toList_append, List.map_cons, List.flatten_cons, List.append_assoc]
theorem vals_rep {xs : List V} {us : List Value} (r : Vals xs us) : ∀ n : Nat, Vals (List.replicate n xs).flatten (List.replicate n us).flatten
  | 0 => .nil
  | n + 1 => by
    rw [List.replicate_succ, List.replicate_succ, List.flatten_cons, List.flatten_cons]
    exact r.append (vals_rep r n)
theorem rep_len {α : Type} {xs : List α} (n : Nat) : (List.replicate n xs).flatten.length = n * xs.length := by
  rw [List.length_flatten, List.map_replicate, List.sum_replicate_nat]
theorem op_repF : OpR X (binaryOp .Mult) rRepF := by
  intro pins s σ H x y v u Q I rx ry h
  obtain ⟨l, k, xs, rfl, rfl, hT, hne, h1, h2, hz, q⟩ := h
  cases rx
  obtain ⟨t, rfl⟩ := ry
  obtain ⟨its, r, ⟨⟨cls, dd, data, sl⟩, ho, hc, n, hd⟩, hs⟩ := I.tuple (hT.sq (K := X.K))
  simp only at hc hd
  subst hc hd
  by_cases e : k = 1
  · subst e
    refine wpAny_binaryOp_repeat_ref (T := "tuple") (U := "int") (by decide) ⟨_, ho, rfl⟩ (fun s' => typeIs_int s' 1 t) noFill_tuple_mul F.fills_int_mul F.slot_int_rmul repeat_tuple F.slot_int_index.lookup
      (call_meets F.slot_int_rmul (typeIs_int s 1 t) F.entry_int_rmul (F.args_int_rmul_2 _ _) (int_rmul_tuple 1 t l its.toArray n dd sl)
        ⟨ho, rfl, ⟨_, ho, rfl⟩, call_meets F.slot_tuple_mul ⟨_, ho, rfl⟩ F.entry_tuple_mul (F.args_tuple_mul_2 _ _) (tuple_mul1 l its.toArray n dd sl t (by simp)) ⟨ho, ?_⟩⟩)
    refine ⟨.ref l, H, I, rfl, q l H (.inr rfl) (Same.refl H) ?_⟩
    simpa using hT
  · have hl := r.length
    have n0 : 0 < its.length := by
      rw [← hl]
      exact List.length_pos_iff.mpr hne
    have ie : its.toArray.isEmpty = false := by
      cases its with
      | nil => exact absurd n0 (by decide)
      | cons a b => rfl
    have fl : (List.foldl (fun x1 x2 => x1 ++ x2) #[] (List.replicate k.toNat its.toArray)).toList = (List.replicate k.toNat its).flatten := by
      rw [arr_fold, List.map_replicate]
      simp
    have sz2 : (List.replicate k.toNat its).flatten.length ≤ sizeLine := by
      rw [rep_len]
      have h3 : k.toNat * its.length ≤ 1000 * 1000 := Nat.mul_le_mul (by omega) (by omega)
      exact Nat.le_trans h3 (by decide)
    have hb : (its.length : Int) * k ≤ 1000 * 1000 := Int.mul_le_mul (by omega) h2 (by omega) (by decide)
    have hb0 : 0 ≤ (its.length : Int) * k := Int.mul_nonneg (by omega) (by omega)
    refine wpAny_binaryOp_repeat_ref (T := "tuple") (U := "int") (by decide) ⟨_, ho, rfl⟩ (fun s' => typeIs_int s' k t) noFill_tuple_mul F.fills_int_mul F.slot_int_rmul repeat_tuple F.slot_int_index.lookup
      (call_meets F.slot_int_rmul (typeIs_int s k t) F.entry_int_rmul (F.args_int_rmul_2 _ _) (int_rmul_tuple k t l its.toArray n dd sl)
        ⟨ho, rfl, ⟨_, ho, rfl⟩, call_meets F.slot_tuple_mul ⟨_, ho, rfl⟩ F.entry_tuple_mul (F.args_tuple_mul_2 _ _) (tuple_mulW l its.toArray n dd sl k t (by simp; omega) (by rw [ie]; simpa using e) (by rw [ie]; simp; omega) ?_ ?_ ?_) ⟨ho, ?_⟩⟩)
    · rw [List.size_toArray]
      have : ((2 : Int) ^ 63 - 1) / 8 = 1152921504606846975 := by decide
      omega
    · rw [List.size_toArray]
      unfold Builtin.Tuple.tupleTooMany
      refine decide_eq_false ?_
      have : ((sizeLine : Nat) : Int) = 16777216 := by decide
      omega
    · rw [← Array.length_toList, fl]; exact sz2
    · have fr := I.hok.fresh (Nat.le_refl s.heap.objs.size)
      have J := Inv.tupF I (vals_rep r k.toNat) (by rw [rep_len, hl, ← rep_len]; exact sz2)
      rw [← fl, Array.toArray_toList] at J
      exact ⟨.ref s.heap.objs.size, _, J, rfl, q _ _ (.inl fr) (smN fr) ⟨_, upd_same, rfl⟩⟩
theorem RpAll.rep {M : Addr → Prop} {H : Hp} {vs : List V} {ds : List D} (h : RpAll M H vs ds) : ∀ n : Nat, RpAll M H (List.replicate n vs).flatten (List.replicate n ds).flatten
  | 0 => .nil
  | n + 1 => by
    rw [List.replicate_succ, List.replicate_succ, List.flatten_cons, List.flatten_cons]
    exact h.app (h.rep n)
def repS (z : Str) (n : Nat) : Str := ⟨(List.replicate n z.cps.toList).flatten.toArray⟩
def mulX : D → D → Option D
  | .int i, .int j => mulD (.int i) (.int j)
  | .tuple ds, .int k => if ds ≠ [] ∧ 1 ≤ k ∧ k ≤ 1000 ∧ ds.length ≤ 1000 then some (.tuple (List.replicate k.toNat ds).flatten) else none
  | .list ds, .int k => if 0 ≤ k ∧ k ≤ 1000 ∧ ds.length ≤ 1000 then some (.list (List.replicate k.toNat ds).flatten) else none
  | .str z, .int n => if 1 ≤ n ∧ n ≤ 100 ∧ 0 < z.length ∧ z.length ≤ 100 then some (.str (repS z n.toNat)) else none
  | _, _ => none
theorem o_mulX : OpR X (binaryOp .Mult) (rD mulX) := by
  intro pn s σ H x y v u Q I rx ry h
  obtain ⟨M, a, b, d, dm, ra, rb, e, q⟩ := h
  cases ra <;> cases rb <;> try (cases e; done)
  · exact o_mul pn s σ H _ _ v u Q I rx ry ⟨M, _, _, d, dm, .int _, .int _, e, q⟩
  · rename_i z hz n
    obtain ⟨l, rfl⟩ := iteS e
    refine op_repS pn s σ H _ _ v u Q I rx ry ⟨_, _, rfl, rfl, l.1, l.2.1, l.2.2.1, l.2.2.2, fun r hr _ => ?_⟩
    have : r = repS z n.toNat := by
      cases r with
      | mk a =>
        unfold repS
        congr
        rw [← Array.toArray_toList (xs := a), ← hr]
    rw [this]
    refine q _ _ (Same.refl _) (.str _ ?_)
    unfold repS
    show (List.toArray _).size ≤ _
    rw [List.size_toArray, rep_len, Array.length_toList]
    exact Nat.le_trans (Nat.mul_le_mul (show n.toNat ≤ 100 by omega) l.2.2.2) (by decide)
  · rename_i t n l r k
    obtain ⟨l2, rfl⟩ := iteS e
    have hl := r.len
    refine op_repF pn s σ H _ _ v u Q I rx ry ⟨_, _, _, rfl, rfl, t, fun z => l2.1 ?_, l2.2.1, l2.2.2.1, by rw [hl]; exact l2.2.2.2, fun p H' hp sm t' => q _ _ sm (.tup t' (fun m => ?_) ?_ ((r.mono (.of sm)).rep _))⟩
    · subst z; cases r; rfl
    · rcases hp with hp | hp
      · exact dm p m hp
      · rw [hp] at m; exact n m
    · rw [rep_len, hl]
      exact Nat.le_trans (Nat.mul_le_mul (show k.toNat ≤ 1000 by omega) l2.2.2.2) (by decide)
  · rename_i t n l r k
    obtain ⟨l2, rfl⟩ := iteS e
    have hl := r.len
    have hm : (List.length ‹List V›) * k.toNat ≤ sizeLine := by
      rw [hl]
      exact Nat.le_trans (Nat.mul_le_mul l2.2.2 (show k.toNat ≤ 1000 by omega)) (by decide)
    exact op_rep pn s σ H _ _ v u Q I rx ry ⟨_, _, _, rfl, rfl, t, by omega, by omega, hm, fun p hp => q _ _ (smN hp) (.lst upd_same (dm.not hp) (by rw [rep_len, Nat.mul_comm]; exact hm) ((r.mono (.of (smN hp))).rep _))⟩
end
end Dl
namespace Dl
open PySem PySem.Spec PyProof.Rows L2 Rt
theorem u65 {k : Nat} {A : Around} (r : Room k A) : A.units + 65 < cLine := by
  have := r.un
  omega
section
variable {X : Cx} {K : PySem.W.Frag}
theorem dE_lc {e : Expr} {it : Rho → Option (List D)} {p : Pat} {c : Rho → Option Bool} {f : EF} {vs : List Nat} {μ μi pr : Bool} (h : PE X e (tLc (iD μ pr it) (gP K p) (tT c) (tD μi f) vs)) (hp : p.fits pr = true := by rfl) (hs : ∀ j, j ∈ slP p → j ∈ vs := by decide) : PE X e (tD μ (eLc μ vs it p c f)) := h.wk fun _ _ _ q => dLc hp hs q
theorem dS_lc {st : Stmt} {i : Nat} {it : Rho → Option (List D)} {p : Pat} {c : Rho → Option Bool} {f : EF} {vs : List Nat} {μi pr : Bool} (h : PS X st (tAsg (tLc (iD true pr it) (gP K p) (tT c) (tD μi f) vs) (gName i))) (hp : p.fits pr = true := by rfl) (hs : ∀ j, j ∈ slP p → j ∈ vs := by decide) : PS X st (tS (sAsg (.nm i) (eLc true vs it p c f))) :=
  dS_asg (K := K) (h.wk fun Dn σ H q => dLc hp hs q)
theorem oS_lc {st : Stmt} {i : Nat} {it : Rho → Option (List D)} {p : Pat} {c : Rho → Option Bool} {f : EF} {vs : List Nat} {μi pr : Bool} (h : PS X st (tAsg (tLc (iD true pr it) (gP K p) (tT c) (tD μi f) vs) (gName i))) (hp : p.fits pr = true := by rfl) (hs : ∀ j, j ∈ slP p → j ∈ vs := by decide) : PS X st (tS (sOwn i (eLc true vs it p c f))) :=
  dS_own (h.wk fun Dn σ H q => nLc hp hs q)
theorem nE_lc {e : Expr} {it : WP (List D)} {p : Pat} {c : WP Bool} {f : WP D} {vs : List Nat} {pr : Bool} (h : PE X e (tLc (inn pr it) (gP K p) (tnT c) (tn f) vs)) (hp : p.fits pr = true := by rfl) (hs : ∀ j, j ∈ slP p → j ∈ vs := by decide) : PE X e (tn (wLc vs it p c f)) := h.wk fun _ _ _ q => nLcE hp hs q
theorem nS_lc {st : Stmt} {i : Nat} {it : WP (List D)} {p : Pat} {c : WP Bool} {f : WP D} {vs : List Nat} {pr : Bool} (h : PS X st (tAsg (tLc (inn pr it) (gP K p) (tnT c) (tn f) vs) (gName i))) (hp : p.fits pr = true := by rfl) (hs : ∀ j, j ∈ slP p → j ∈ vs := by decide) : PS X st (tSn (swAsg (.nm i) (wLc vs it p c f))) :=
  nS_asg (K := K) (h.wk fun Dn σ H q => nLcE hp hs q)
theorem nO_lc {st : Stmt} {i : Nat} {it : WP (List D)} {p : Pat} {c : WP Bool} {f : WP D} {vs : List Nat} {pr : Bool} (h : PS X st (tAsg (tLc (inn pr it) (gP K p) (tnT c) (tn f) vs) (gName i))) (hp : p.fits pr = true := by rfl) (hs : ∀ j, j ∈ slP p → j ∈ vs := by decide) : PS X st (tSn (swOwn i (wLc vs it p c f))) :=
  nS_own (h.wk fun Dn σ H q => nLcN hp hs q)
theorem nE_callB {x : Str} {p pos : Pos} {e : Expr} {es : List Expr} {id : String} {g : List D → Option D} {f : WP (List D)} (c : CallR X (.builtin id) (rC g)) (hg : Gl X x) (hm : X.mg x = none) (hv : bootBuiltins x = some (.builtin id)) (ha : PA X (e :: es) (tnA f))
    (hn : x ≠ "__name__" := by decide) (hdb : (x == ("__debug__" : Str)) = false := by decide) (he : starEach (e :: es) X.env = (false, eval e X.env) :: starEach es X.env := by rfl) (hpl : (backTo pos (starEach es X.env)).any (·.1) = false := by rfl) :
    PE X (.Call (.Name x p) (e :: es) [] pos) (tn (wB f g)) := (pe_callB c hg hm hv ha hn hdb he hpl).wk fun _ _ _ q => nCall q
theorem nE_callTy {x : Str} {p pos : Pos} {e : Expr} {es : List Expr} {T : String} {g : List D → Option D} {f : WP (List D)} (c : CallR X (.type T) (rC g)) (hg : Gl X x) (hm : X.mg x = none) (hv : bootBuiltins x = some (.type T)) (ha : PA X (e :: es) (tnA f))
    (hn : x ≠ "__name__" := by decide) (hdb : (x == ("__debug__" : Str)) = false := by decide) (he : starEach (e :: es) X.env = (false, eval e X.env) :: starEach es X.env := by rfl) (hpl : (backTo pos (starEach es X.env)).any (·.1) = false := by rfl) :
    PE X (.Call (.Name x p) (e :: es) [] pos) (tn (wB f g)) := (pe_callTy c hg hm hv ha hn hdb he hpl).wk fun _ _ _ q => nCall q
/-- x = x + e, both lists, x one's own -/
def eCat (i : Nat) (f : EF) : EF := fun ρ => match ρ[i]? with
  | some (some (.own ds)) => (f ρ).bind fun d => match d with
    | .list es => if ds.length + es.length ≤ sizeLine then some (.list (ds ++ es)) else none
    | _ => none
  | _ => none
theorem oE_cat {a b : Expr} {pos : Pos} {i : Nat} {f : EF} (ha : PE X a (tVar i)) (hb : PE X b (tD true f)) : PE X (.BinOp a .Add b pos) (tN (eCat i f)) := (pe_op op_cat ha hb).wk fun σ H Q q => by
  obtain ⟨M0, H0, ρ, es, R, e, q⟩ := q
  unfold eCat at e
  split at e
  · rename_i ds z
    obtain ⟨d, ed, e⟩ := some_bind e
    obtain ⟨p, vs, a, b, c, l, r⟩ := R.own i ds z
    refine ⟨.ref p, a, M0, H0, ρ, d, R, ed, fun v H1 s1 r1 => ?_⟩
    cases r1 <;> try (cases e; done)
    rename_i t n l1 r1
    obtain ⟨l2, e3⟩ := iteS e
    cases e3
    refine ⟨_, _, _, _, rfl, rfl, s1 _ _ b, t, by rw [r.len, r1.len]; exact l2, fun p2 hp2 => q p2 _ _ ?_ (s1.trans (smN hp2)) upd_same (by rw [List.length_append, r.len, r1.len]; exact l2) ?_⟩
    · cases z : H p2 with
      | none => rfl
      | some o => rw [s1 _ _ z] at hp2; cases hp2
    · have k : ∀ a, Mi true M0 σ ρ p2 a → Mu true M0 σ ρ a ∨ ‹Hp› a = none := fun a m => by
        rcases m with m | rfl
        · exact .inl m
        · exact .inr hp2
      exact (((r.mono (.of s1)).reM k).mono (.of (smN hp2))).app ((r1.reM k).mono (.of (smN hp2)))
  · cases e
def wCat (i : Nat) (f : WP D) : WP D := ⟨fun ρ b Q => ∃ ds, ρ[i]? = some (some (.own ds)) ∧ f.w ρ b fun d b' => ∃ es, d = .list es ∧ ds.length + es.length ≤ sizeLine ∧ Q (.list (ds ++ es)) b', fun h ⟨ds, e, z⟩ => ⟨ds, e, f.m (fun d b' ⟨es, e1, l, y⟩ => ⟨es, e1, l, h _ _ y⟩) z⟩⟩
theorem nO_cat {a b : Expr} {pos : Pos} {i : Nat} {f : WP D} (ha : PE X a (tVar i)) (hb : PE X b (tn f)) : PE X (.BinOp a .Add b pos) (tnN (wCat i f)) := (pe_op op_cat ha hb).wk fun σ H Q q => by
  obtain ⟨g, M0, H0, ρ, b, R, ds, z, q⟩ := q
  obtain ⟨p, vs, a, c, h0, l, r⟩ := R.own i ds z
  refine ⟨.ref p, a, g, M0, H0, ρ, b, R, f.m (fun d b1 ⟨es, e1, l2, q⟩ v H1 k1 i1 r1 => ?_) q⟩
  obtain ⟨es', e3, q⟩ := q
  cases e3
  subst e1
  cases r1 with
  | lst t n l1 r1 =>
    have c1 := k1 _ _ (fun o => R.dom0 p (R.pl p o) h0) c
    refine ⟨_, _, _, _, rfl, rfl, c1, t, by rw [r.len, r1.len]; exact l2, fun p2 hp2 => q p2 _ _ ?_ (k1.tr (.of (smN hp2))) (Pl.same i1 (smN hp2)) upd_same (by rw [List.length_append, r.len, r1.len]; exact l2) ?_⟩
    · cases z : H p2 with
      | none => rfl
      | some o =>
        by_cases ow : g.own p2
        · exact (g.alive i1 ow hp2).elim
        · rw [k1 _ _ ow z] at hp2; cases hp2
    · have k : ∀ a, Mi true M0 σ ρ p2 a → Mu true M0 σ ρ a ∨ H1 a = none := fun a m => by
        rcases m with m | rfl
        · exact .inl m
        · exact .inr hp2
      exact (((r.mono fun p o n e => k1 p o (fun z => n (.inl (R.pl p z))) e).reM k).mono (.of (smN hp2))).app ((r1.reM k).mono (.of (smN hp2)))
def sPar (i j : Nat) (f : Rho → Option (List D)) : Rho → Option Out := fun ρ => (f ρ).bind fun ds => match ds with
  | [a, b] => some (.nx ((ρ.set i (some (.dat a))).set j (some (.dat b))))
  | _ => none
theorem dS_par {st : Stmt} {i j : Nat} {f : Rho → Option (List D)} (h : PS X st (tPar i j (tA true f))) : PS X st (tS (sPar i j f)) := h.wk fun Dn σ H q => by
  obtain ⟨M0, H0, ρ, o, R, e, q⟩ := tS_iff.mp q
  obtain ⟨ds, ed, e⟩ := some_bind e
  refine ⟨M0, H0, ρ, ds, R, ed, fun vs H1 s1 r1 => ?_⟩
  match ds, vs, r1, e with
  | [a, b], [v, w], .cons ra (.cons rb .nil), e =>
    cases e
    have sh : ∀ a', Mu true M0 (σ.set i (some v)) (ρ.set i (some (.dat a))) a' → Mu true M0 σ ρ a' := Mu.shrink fun ds e => by cases e
    have R1 := (R.mono s1).set (i := i) ra
    have R2 := R1.set (i := j) (rb.reM fun a m => .inl (sh a m))
    refine ⟨v, w, rfl, q _ _ R2 ((Stp.of s1).trans ⟨.refl, fun p m => .inl (sh p (Mu.shrink (fun ds e => by cases e) p m))⟩)⟩
def swPar (i j : Nat) (f : WP (List D)) : WP Out := ⟨fun ρ b Q => f.w ρ b fun ds b' => ∃ x y, ds = [x, y] ∧ Q (.nx ((ρ.set i (some (.dat x))).set j (some (.dat y)))) b', fun h z => f.m (fun ds b' ⟨x, y, e, w⟩ => ⟨x, y, e, h _ _ w⟩) z⟩
theorem nS_par {st : Stmt} {i j : Nat} {f : WP (List D)} (h : PS X st (tPar i j (tnA f))) : PS X st (tSn (swPar i j f)) := h.wk fun Dn σ H q => by
  obtain ⟨g, M0, H0, ρ, b, R, q⟩ := q
  refine ⟨g, M0, H0, ρ, b, R, f.m (fun ds b1 ⟨x, y, e, q⟩ vs H1 k1 i1 r1 => ?_) q⟩
  subst e
  match vs, r1 with
  | [v, w], .cons ra (.cons rb .nil) =>
    have sh : ∀ a', Mu true M0 (σ.set i (some v)) (ρ.set i (some (.dat x))) a' → Mu true M0 σ ρ a' := Mu.shrink fun ds e => by cases e
    have R1 := (R.up k1 i1).set (i := i) ra
    have R2 := R1.set (i := j) (rb.reM fun a m => .inl (sh a m))
    refine ⟨v, w, rfl, q _ _ R2 ((R.stp k1).trans ⟨.refl, fun p m => .inl (sh p (Mu.shrink (fun ds e => by cases e) p m))⟩)⟩
/-- a def of a pool's family in the layer's words -/
theorem _root_.L2.FnOk.wk {P : Program} {w : World} {mg : Str → Option Value} {base : Heap} {k : Nat} {f : Addr} {fd : FuncData} {ps : List Str} {sp sp' : Sp} (F : FnOk P w K mg base CX0 k f fd ps sp) (m : ∀ vs H Q E, sp' vs H Q E → sp vs H Q E) : FnOk P w K mg base CX0 k f fd ps sp' :=
  ⟨fun vs H Q E h => F.len vs H Q E (m _ _ _ _ h), fun A outer s H args us vs Q E room e b v h => F.run A outer s H args us vs Q E room e b v (m _ _ _ _ h)⟩
end
end Dl
namespace Dl
open PySem PySem.Spec PyProof.Rows L2 Rt
theorem sub_dict_str : isSubtype (.type "dict") (.type "str") = pure false := by
  rw [isSubtype_type]
  rfl
theorem sub_str_dict : isSubtype (.type "str") (.type "dict") = pure false := by
  rw [isSubtype_type]
  rfl
theorem str_eq_no_dict (b : Str) (u : Tok) (l : Addr) (o : Obj) (es : Array DictEntry) (n : Nat) (hc : o.cls = .type "dict") (hd : o.data = .dict es n) : Meets (Builtin.«str.__eq__» { pos := [.str b u, .ref l] }) fun _ R s => s.heap.get? l = some o ∧ R (.ok (.ret .notImplemented)) s :=
  Meets.of_wp fun prog w A R s h => by
    obtain ⟨hp, g, d, tk, os⟩ := s
    obtain ⟨hl, h⟩ := h
    obtain ⟨cls, dd, dat, sl⟩ := o
    cases hc
    cases hd
    unfold Builtin.«str.__eq__»
    refine wpAny_bind (wpAny_bind ?_)
    unfold slotArgs
    refine wpAny_ite_false rfl (wpAny_ite_false rfl (wpAny_pure (wpAny_bind ?_)))
    unfold Builtin.Str.textOf
    refine wpAny_bind (wpAny_pure (wpAny_pure (wpAny_pure (wpAny_bind ?_))))
    unfold asStr?
    refine wpAny_bind (wpAny_load hl (wpAny_pure (wpAny_bind (wpAny_rule (wpAny_pure ⟨_, rfl, h⟩)))))
theorem dict_eq_no_str (b : Str) (u : Tok) (l : Addr) (o : Obj) (es : Array DictEntry) (n : Nat) (hc : o.cls = .type "dict") (hd : o.data = .dict es n) : Meets (Builtin.«dict.__eq__» { pos := [.ref l, .str b u] }) fun _ R s => s.heap.get? l = some o ∧ R (.ok (.ret .notImplemented)) s :=
  Meets.of_wp fun prog w A R s h => by
    obtain ⟨hp, g, d, tk, os⟩ := s
    obtain ⟨hl, h⟩ := h
    obtain ⟨cls, dd, dat, sl⟩ := o
    cases hc
    cases hd
    unfold Builtin.«dict.__eq__»
    refine wpAny_bind ?_
    unfold Builtin.Dict.dictSlotArgs
    refine wpAny_bind ?_
    unfold Builtin.Dict.notOrdered
    refine wpAny_ite_false rfl (wpAny_pure (wpAny_bind ?_))
    unfold slotArgs
    refine wpAny_ite_false rfl (wpAny_ite_false rfl (wpAny_pure (wpAny_pure (wpAny_bind ?_))))
    unfold isInstance
    refine wpAny_bind (wpAny_pure (wpAny_of_eq sub_str_dict (wpAny_ite_true rfl (wpAny_bind (wpAny_rule (wpAny_pure ⟨_, rfl, h⟩))))))
theorem rc_str_dict {A : Around} {s : Shared} {l : Addr} {o : Obj} {es : Array DictEntry} {n : Nat} (b : Str) (u : Tok) (ho : s.heap.get? l = some o) (hc : o.cls = .type "dict") (hd : o.data = .dict es n) (hu : A.units < cLine) : SeqAt.RcAt A s (.str b u) (.ref l) false := fun prog w E Q h =>
  SeqAt.rc_eq_decline_or (typeIs_str s b u) ⟨o, ho, hc⟩ (by decide) sub_dict_str F.slot_str_eq F.slot_dict_eq_refl
    (fun _ hq => call_meets F.slot_str_eq (typeIs_str s b u) F.entry_str_eq (F.args_str_eq_2 _ _) (str_eq_no_dict b u l o es n hc hd) ⟨ho, hq⟩)
    (fun _ hq => call_meets F.slot_dict_eq_refl ⟨o, ho, hc⟩ F.entry_dict_eq (F.args_dict_eq_2 _ _) (dict_eq_no_str b u l o es n hc hd) ⟨ho, hq⟩)
    (fun _ hq => wpAny_of_eq rfl hq) (.inr hu) h
theorem eqAt_str_dict {A : Around} {s : Shared} {l : Addr} {o : Obj} {es : Array DictEntry} {n : Nat} (b : Str) (u : Tok) (ho : s.heap.get? l = some o) (hc : o.cls = .type "dict") (hd : o.data = .dict es n) (hu : A.units < cLine) : SeqAt.EqAt A s (.str b u) (.ref l) false := fun prog w E Q h =>
  wpAny_holding (wpAny_ite_split (fun e => absurd (eq_of_beq e) (fun a => nomatch a)) fun _ => wpAny_bind (rc_str_dict b u ho hc hd hu prog w E (fun a s' => wpAny (model prog w) A (truthOfDropped a) Q E s') (wpAny_truthy_bool h)))
end Dl
namespace Dl
open PySem PySem.Spec PyProof.Rows L2 Rt
theorem sub_int_dict : isSubtype (.type "int") (.type "dict") = pure false := by rw [isSubtype_type]; rfl
theorem sub_bool_dict : isSubtype (.type "bool") (.type "dict") = pure false := by rw [isSubtype_type]; rfl
theorem sub_none_dict : isSubtype (.type "NoneType") (.type "dict") = pure false := by rw [isSubtype_type]; rfl
theorem sub_list_dict : isSubtype (.type "list") (.type "dict") = pure false := by rw [isSubtype_type]; rfl
theorem sub_tuple_dict : isSubtype (.type "tuple") (.type "dict") = pure false := by rw [isSubtype_type]; rfl
theorem sub_dict_int : isSubtype (.type "dict") (.type "int") = pure false := by rw [isSubtype_type]; rfl
theorem sub_dict_bool : isSubtype (.type "dict") (.type "bool") = pure false := by rw [isSubtype_type]; rfl
theorem sub_dict_none : isSubtype (.type "dict") (.type "NoneType") = pure false := by rw [isSubtype_type]; rfl
theorem sub_dict_list : isSubtype (.type "dict") (.type "list") = pure false := by rw [isSubtype_type]; rfl
theorem sub_dict_tuple : isSubtype (.type "dict") (.type "tuple") = pure false := by rw [isSubtype_type]; rfl
theorem dict_eq_no {x : Value} {T : String} (hT : isSubtype (.type T) (.type "dict") = pure false) (l : Addr) : Meets (Builtin.«dict.__eq__» { pos := [.ref l, x] }) fun _ R s => s.TypeIs x T ∧ R (.ok (.ret .notImplemented)) s :=
  Meets.of_wp fun prog w A R s h => by
    obtain ⟨hl, h⟩ := h
    unfold Builtin.«dict.__eq__»
    refine wpAny_bind ?_
    unfold Builtin.Dict.dictSlotArgs
    refine wpAny_bind ?_
    unfold Builtin.Dict.notOrdered
    refine wpAny_ite_false rfl (wpAny_pure (wpAny_bind ?_))
    unfold slotArgs
    refine wpAny_ite_false rfl (wpAny_ite_false rfl (wpAny_pure (wpAny_pure (wpAny_bind ?_))))
    unfold isInstance
    refine wpAny_bind (wpAny_typeOf hl (wpAny_of_eq hT (wpAny_ite_true rfl (wpAny_bind (wpAny_rule (wpAny_pure ⟨_, rfl, h⟩))))))
theorem list_eq_no (l q : Addr) (o : Obj) (hc : o.cls = .type "dict") : Meets (Builtin.«list.__eq__» { pos := [.ref q, .ref l] }) fun _ R s => s.heap.get? l = some o ∧ R (.ok (.ret .notImplemented)) s :=
  Meets.of_wp fun prog w A R s h => by
    obtain ⟨hl, h⟩ := h
    have hl : s.TypeIs (.ref l) "dict" := ⟨o, hl, hc⟩
    unfold Builtin.«list.__eq__»
    refine wpAny_bind ?_
    unfold slotArgs
    refine wpAny_ite_false rfl (wpAny_ite_false rfl (wpAny_pure (wpAny_bind ?_)))
    unfold isInstance
    exact wpAny_bind (wpAny_typeOf hl (wpAny_of_eq sub_dict_list (wpAny_ite_true rfl (wpAny_pure ⟨_, rfl, h⟩))))
theorem tuple_eq_no (l q : Addr) (o : Obj) (hc : o.cls = .type "dict") : Meets (Builtin.«tuple.__eq__» { pos := [.ref q, .ref l] }) fun _ R s => s.heap.get? l = some o ∧ R (.ok (.ret .notImplemented)) s :=
  Meets.of_wp fun prog w A R s h => by
    obtain ⟨hl, h⟩ := h
    have hl : s.TypeIs (.ref l) "dict" := ⟨o, hl, hc⟩
    unfold Builtin.«tuple.__eq__»
    refine wpAny_bind ?_
    unfold slotArgs
    refine wpAny_ite_false rfl (wpAny_ite_false rfl (wpAny_pure (wpAny_bind ?_)))
    unfold isInstance
    exact wpAny_bind (wpAny_typeOf hl (wpAny_of_eq sub_dict_tuple (wpAny_ite_true rfl (wpAny_pure ⟨_, rfl, h⟩))))
theorem int_eq_no (i : Int) (t : Tok) (l : Addr) (o : Obj) (es : Array DictEntry) (n : Nat) (hd : o.data = .dict es n) : Meets (Builtin.«int.__eq__» { pos := [.int i t, .ref l] }) fun _ R s => s.heap.get? l = some o ∧ R (.ok (.ret .notImplemented)) s :=
  Meets.of_wp fun prog w A R s h => by
    obtain ⟨hp, g, d, tk, os⟩ := s
    obtain ⟨hl, h⟩ := h
    obtain ⟨cls, dd, dat, sl⟩ := o
    cases hd
    unfold Builtin.«int.__eq__»
    refine wpAny_bind ?_
    unfold slotArgs
    refine wpAny_ite_false rfl (wpAny_ite_false rfl (wpAny_pure (wpAny_bind ?_)))
    unfold Builtin.Int.intOfSelf
    refine wpAny_bind (wpAny_pure (wpAny_pure (wpAny_bind ?_)))
    unfold asInt?
    exact wpAny_bind (wpAny_load hl (wpAny_pure (wpAny_bind (wpAny_rule (wpAny_pure ⟨_, rfl, h⟩)))))
theorem bool_eq_no (i : Bool) (l : Addr) (o : Obj) (es : Array DictEntry) (n : Nat) (hd : o.data = .dict es n) : Meets (Builtin.«int.__eq__» { pos := [.bool i, .ref l] }) fun _ R s => s.heap.get? l = some o ∧ R (.ok (.ret .notImplemented)) s :=
  Meets.of_wp fun prog w A R s h => by
    obtain ⟨hp, g, d, tk, os⟩ := s
    obtain ⟨hl, h⟩ := h
    obtain ⟨cls, dd, dat, sl⟩ := o
    cases hd
    unfold Builtin.«int.__eq__»
    refine wpAny_bind ?_
    unfold slotArgs
    refine wpAny_ite_false rfl (wpAny_ite_false rfl (wpAny_pure (wpAny_bind ?_)))
    unfold Builtin.Int.intOfSelf
    refine wpAny_bind (wpAny_pure (wpAny_pure (wpAny_bind ?_)))
    unfold asInt?
    exact wpAny_bind (wpAny_load hl (wpAny_pure (wpAny_bind (wpAny_rule (wpAny_pure ⟨_, rfl, h⟩)))))
end Dl
namespace Dl
open PySem PySem.Spec PyProof.Rows L2 Rt
structure IsDic (s : Shared) (l : Addr) (o : Obj) (es : Array DictEntry) (n : Nat) : Prop where
  get : s.heap.get? l = some o
  cls : o.cls = .type "dict"
  dat : o.data = .dict es n
theorem IsDic.ty {s : Shared} {l : Addr} {o : Obj} {es : Array DictEntry} {n : Nat} (h : IsDic s l o es n) : s.TypeIs (.ref l) "dict" := ⟨o, h.get, h.cls⟩
section
variable {A : Around} {s : Shared} {l : Addr} {o : Obj} {es : Array DictEntry} {n : Nat}
theorem tyL {q : Addr} {items : Array Value} (h : s.heap.IsList q items) : s.TypeIs (.ref q) "list" := by
  obtain ⟨o, g, c, _⟩ := h
  exact ⟨o, g, c⟩
theorem tyT {q : Addr} {items : Array Value} (h : s.heap.IsTuple q items) : s.TypeIs (.ref q) "tuple" := by
  obtain ⟨o, g, c, _⟩ := h
  exact ⟨o, g, c⟩
theorem ne_of_ty {q l : Addr} {T U : String} (h : s.TypeIs (.ref q) T) (k : s.TypeIs (.ref l) U) (n : Value.type T ≠ .type U) : q ≠ l := by
  rintro rfl
  obtain ⟨o, g, c⟩ := h
  obtain ⟨o', g', c'⟩ := k
  rw [g] at g'
  cases g'
  exact n (c.symm.trans c')
theorem isSame_dic {M : Model} {E : Value → Shared → Prop} {q : Addr} {T : String} {Q : Bool → Shared → Prop} (h : IsDic s l o es n) (t : s.TypeIs (.ref q) T) (n' : Value.type T ≠ .type "dict") (hq : Q false s) : wpAny M A (isSame (.ref l) (.ref q)) Q E s := by
  have hne := ne_of_ty h.ty t n'.symm
  obtain ⟨o2, g2, c2⟩ := t
  exact wpAny_isSame_ref_other hne h.get g2 (by rw [h.cls]; decide) hq
theorem dic_isSame {M : Model} {E : Value → Shared → Prop} {q : Addr} {T : String} {Q : Bool → Shared → Prop} (h : IsDic s l o es n) (t : s.TypeIs (.ref q) T) (n' : Value.type T ≠ .type "dict") (hq : Q false s) : wpAny M A (isSame (.ref q) (.ref l)) Q E s := by
  have hne := ne_of_ty t h.ty n'
  obtain ⟨o2, g2, c2⟩ := t
  obtain ⟨g1, c1, d1⟩ := h
  obtain ⟨cls, dd, dat, sl⟩ := o
  cases c1
  cases d1
  obtain ⟨cls, dd, dat, sl⟩ := o2
  cases c2
  unfold isSame
  refine wpAny_ite_false (decide_eq_false fun e => hne (eq_of_beq e)) (wpAny_bind (wpAny_load g2 (wpAny_bind (wpAny_load g1 ?_))))
  split
  · rename_i e _ _
    exact absurd (show Value.type "dict" = Value.type "tuple" from e) (by decide)
  · exact wpAny_pure hq
theorem rc_int_dic (i : Int) (t : Tok) (h : IsDic s l o es n) (hu : A.units < cLine) : SeqAt.RcAt A s (.int i t) (.ref l) false := fun prog w E Q hQ =>
  SeqAt.rc_eq_decline_or (typeIs_int s i t) h.ty (by decide) sub_dict_int F.slot_int_eq F.slot_dict_eq_refl
    (fun _ hq => call_meets F.slot_int_eq (typeIs_int s i t) F.entry_int_eq (F.args_int_eq_2 _ _) (int_eq_no i t l o es n h.dat) ⟨h.get, hq⟩)
    (fun _ hq => call_meets F.slot_dict_eq_refl h.ty F.entry_dict_eq (F.args_dict_eq_2 _ _) (dict_eq_no sub_int_dict l) ⟨(typeIs_int s i t), hq⟩)
    (fun _ hq => wpAny_of_eq rfl hq) (.inr hu) hQ
theorem rc_dic_int (i : Int) (t : Tok) (h : IsDic s l o es n) (hu : A.units < cLine) : SeqAt.RcAt A s (.ref l) (.int i t) false := fun prog w E Q hQ =>
  SeqAt.rc_eq_decline_or h.ty (typeIs_int s i t) (by decide) sub_int_dict F.slot_dict_eq F.slot_int_eq_refl
    (fun _ hq => call_meets F.slot_dict_eq h.ty F.entry_dict_eq (F.args_dict_eq_2 _ _) (dict_eq_no sub_int_dict l) ⟨(typeIs_int s i t), hq⟩)
    (fun _ hq => call_meets F.slot_int_eq_refl (typeIs_int s i t) F.entry_int_eq (F.args_int_eq_2 _ _) (int_eq_no i t l o es n h.dat) ⟨h.get, hq⟩)
    (fun _ hq => wpAny_of_eq rfl hq) (.inr hu) hQ
theorem rc_bool_dic (i : Bool) (h : IsDic s l o es n) (hu : A.units < cLine) : SeqAt.RcAt A s (.bool i) (.ref l) false := fun prog w E Q hQ =>
  SeqAt.rc_eq_decline_or rfl h.ty (by decide) sub_dict_bool F.slot_bool_eq F.slot_dict_eq_refl
    (fun _ hq => call_meets F.slot_bool_eq rfl F.entry_int_eq (F.args_int_eq_2 _ _) (bool_eq_no i l o es n h.dat) ⟨h.get, hq⟩)
    (fun _ hq => call_meets F.slot_dict_eq_refl h.ty F.entry_dict_eq (F.args_dict_eq_2 _ _) (dict_eq_no sub_bool_dict l) ⟨rfl, hq⟩)
    (fun _ hq => wpAny_of_eq rfl hq) (.inr hu) hQ
theorem rc_dic_bool (i : Bool) (h : IsDic s l o es n) (hu : A.units < cLine) : SeqAt.RcAt A s (.ref l) (.bool i) false := fun prog w E Q hQ =>
  SeqAt.rc_eq_decline_or h.ty rfl (by decide) sub_bool_dict F.slot_dict_eq F.slot_bool_eq_refl
    (fun _ hq => call_meets F.slot_dict_eq h.ty F.entry_dict_eq (F.args_dict_eq_2 _ _) (dict_eq_no sub_bool_dict l) ⟨rfl, hq⟩)
    (fun _ hq => call_meets F.slot_bool_eq_refl rfl F.entry_int_eq (F.args_int_eq_2 _ _) (bool_eq_no i l o es n h.dat) ⟨h.get, hq⟩)
    (fun _ hq => wpAny_of_eq rfl hq) (.inr hu) hQ
theorem rc_str_dic (i : Str) (t : Tok) (h : IsDic s l o es n) (hu : A.units < cLine) : SeqAt.RcAt A s (.str i t) (.ref l) false := fun prog w E Q hQ =>
  SeqAt.rc_eq_decline_or (typeIs_str s i t) h.ty (by decide) sub_dict_str F.slot_str_eq F.slot_dict_eq_refl
    (fun _ hq => call_meets F.slot_str_eq (typeIs_str s i t) F.entry_str_eq (F.args_str_eq_2 _ _) (str_eq_no_dict i t l o es n h.cls h.dat) ⟨h.get, hq⟩)
    (fun _ hq => call_meets F.slot_dict_eq_refl h.ty F.entry_dict_eq (F.args_dict_eq_2 _ _) (dict_eq_no sub_str_dict l) ⟨(typeIs_str s i t), hq⟩)
    (fun _ hq => wpAny_of_eq rfl hq) (.inr hu) hQ
theorem rc_dic_str (i : Str) (t : Tok) (h : IsDic s l o es n) (hu : A.units < cLine) : SeqAt.RcAt A s (.ref l) (.str i t) false := fun prog w E Q hQ =>
  SeqAt.rc_eq_decline_or h.ty (typeIs_str s i t) (by decide) sub_str_dict F.slot_dict_eq F.slot_str_eq_refl
    (fun _ hq => call_meets F.slot_dict_eq h.ty F.entry_dict_eq (F.args_dict_eq_2 _ _) (dict_eq_no sub_str_dict l) ⟨(typeIs_str s i t), hq⟩)
    (fun _ hq => call_meets F.slot_str_eq_refl (typeIs_str s i t) F.entry_str_eq (F.args_str_eq_2 _ _) (str_eq_no_dict i t l o es n h.cls h.dat) ⟨h.get, hq⟩)
    (fun _ hq => wpAny_of_eq rfl hq) (.inr hu) hQ
theorem rc_none_dic  (h : IsDic s l o es n) (hu : A.units < cLine) : SeqAt.RcAt A s (.none) (.ref l) false := fun prog w E Q hQ =>
  SeqAt.rc_eq_decline_or rfl h.ty (by decide) sub_dict_none F.slot_NoneType_eq F.slot_dict_eq_refl
    (fun _ hq => call_gives F.slot_NoneType_eq rfl F.entry_NoneType_eq (F.args_NoneType_eq_2 _ _) (SeqAt.NoneType___eq___none_ref_0 l) hq)
    (fun _ hq => call_meets F.slot_dict_eq_refl h.ty F.entry_dict_eq (F.args_dict_eq_2 _ _) (dict_eq_no sub_none_dict l) ⟨rfl, hq⟩)
    (fun _ hq => wpAny_of_eq rfl hq) (.inr hu) hQ
theorem rc_dic_none  (h : IsDic s l o es n) (hu : A.units < cLine) : SeqAt.RcAt A s (.ref l) (.none) false := fun prog w E Q hQ =>
  SeqAt.rc_eq_decline_or h.ty rfl (by decide) sub_none_dict F.slot_dict_eq F.slot_NoneType_eq_refl
    (fun _ hq => call_meets F.slot_dict_eq h.ty F.entry_dict_eq (F.args_dict_eq_2 _ _) (dict_eq_no sub_none_dict l) ⟨rfl, hq⟩)
    (fun _ hq => call_gives F.slot_NoneType_eq_refl rfl F.entry_NoneType_eq (F.args_NoneType_eq_2 _ _) (SeqAt.NoneType___eq___none_ref_0 l) hq)
    (fun _ hq => wpAny_of_eq rfl hq) (.inr hu) hQ
theorem rc_list_dic {q : Addr} {items : Array Value} (hq0 : s.heap.IsList q items) (h : IsDic s l o es n) (hu : A.units < cLine) : SeqAt.RcAt A s (.ref q) (.ref l) false := fun prog w E Q hQ =>
  SeqAt.rc_eq_decline_or (tyL hq0) h.ty (by decide) sub_dict_list F.slot_list_eq F.slot_dict_eq_refl
    (fun _ hq => call_meets F.slot_list_eq (tyL hq0) F.entry_list_eq (F.args_list_eq_2 _ _) (list_eq_no l q o h.cls) ⟨h.get, hq⟩)
    (fun _ hq => call_meets F.slot_dict_eq_refl h.ty F.entry_dict_eq (F.args_dict_eq_2 _ _) (dict_eq_no sub_list_dict l) ⟨(tyL hq0), hq⟩)
    (fun _ hq => dic_isSame h (tyL hq0) (by decide) hq) (.inr hu) hQ
theorem rc_dic_list {q : Addr} {items : Array Value} (hq0 : s.heap.IsList q items) (h : IsDic s l o es n) (hu : A.units < cLine) : SeqAt.RcAt A s (.ref l) (.ref q) false := fun prog w E Q hQ =>
  SeqAt.rc_eq_decline_or h.ty (tyL hq0) (by decide) sub_list_dict F.slot_dict_eq F.slot_list_eq_refl
    (fun _ hq => call_meets F.slot_dict_eq h.ty F.entry_dict_eq (F.args_dict_eq_2 _ _) (dict_eq_no sub_list_dict l) ⟨(tyL hq0), hq⟩)
    (fun _ hq => call_meets F.slot_list_eq_refl (tyL hq0) F.entry_list_eq (F.args_list_eq_2 _ _) (list_eq_no l q o h.cls) ⟨h.get, hq⟩)
    (fun _ hq => isSame_dic h (tyL hq0) (by decide) hq) (.inr hu) hQ
theorem rc_tuple_dic {q : Addr} {items : Array Value} (hq0 : s.heap.IsTuple q items) (h : IsDic s l o es n) (hu : A.units < cLine) : SeqAt.RcAt A s (.ref q) (.ref l) false := fun prog w E Q hQ =>
  SeqAt.rc_eq_decline_or (tyT hq0) h.ty (by decide) sub_dict_tuple F.slot_tuple_eq F.slot_dict_eq_refl
    (fun _ hq => call_meets F.slot_tuple_eq (tyT hq0) F.entry_tuple_eq (F.args_tuple_eq_2 _ _) (tuple_eq_no l q o h.cls) ⟨h.get, hq⟩)
    (fun _ hq => call_meets F.slot_dict_eq_refl h.ty F.entry_dict_eq (F.args_dict_eq_2 _ _) (dict_eq_no sub_tuple_dict l) ⟨(tyT hq0), hq⟩)
    (fun _ hq => dic_isSame h (tyT hq0) (by decide) hq) (.inr hu) hQ
theorem rc_dic_tuple {q : Addr} {items : Array Value} (hq0 : s.heap.IsTuple q items) (h : IsDic s l o es n) (hu : A.units < cLine) : SeqAt.RcAt A s (.ref l) (.ref q) false := fun prog w E Q hQ =>
  SeqAt.rc_eq_decline_or h.ty (tyT hq0) (by decide) sub_tuple_dict F.slot_dict_eq F.slot_tuple_eq_refl
    (fun _ hq => call_meets F.slot_dict_eq h.ty F.entry_dict_eq (F.args_dict_eq_2 _ _) (dict_eq_no sub_tuple_dict l) ⟨(tyT hq0), hq⟩)
    (fun _ hq => call_meets F.slot_tuple_eq_refl (tyT hq0) F.entry_tuple_eq (F.args_tuple_eq_2 _ _) (tuple_eq_no l q o h.cls) ⟨h.get, hq⟩)
    (fun _ hq => isSame_dic h (tyT hq0) (by decide) hq) (.inr hu) hQ
end
end Dl
namespace Dl
open PySem PySem.Spec PyProof.Rows L2 Rt
theorem eqAt_str_any {A : Around} {s : Shared} {x : Value} {d : D} {as : List Addr} (b : Str) (u : Tok) (r : Reads s.heap x d as) (hu : A.units < cLine) : SeqAt.EqAt A s (.str b u) x (PyData.eqv (.str b) d) := by
  cases r with
  | none => exact SeqAt.EqAt.str_none b u
  | bool c => exact SeqAt.EqAt.str_bool b u c
  | int c t => exact SeqAt.EqAt.str_int b u c t
  | str c t => exact SeqAt.EqAt.str_str b u c t
  | list g c e _ => exact SeqAt.EqAt.str_list b u ⟨_, g, c, _, e⟩ hu
  | tuple g c e _ => exact SeqAt.EqAt.str_tuple b u ⟨_, g, c, _, e⟩ hu
  | dict g c e _ _ => exact eqAt_str_dict b u g c e hu
theorem key_reads {h : Heap} {k : Key} {u : Value} (e : keyIs k u = true) : Reads h u (kD k) [] := by
  cases k with
  | inl i =>
    have e : Value.isInt i u = true := e
    cases u <;> try (cases e; done)
    have e2 := eq_of_beq e
    rw [← e2]
    exact .int _ _
  | inr x =>
    have e : Value.isStrOf x u = true := e
    cases u <;> try (cases e; done)
    have e2 := eq_of_beq e
    rw [← e2]
    exact .str _ _
mutual
theorem Rp.reads {X : Cx} {pn : List (Addr × Obj)} {σ : L2.St} {M : Addr → Prop} {H : Hp} {s : Shared} (I : L2.Inv X pn σ H s) : ∀ {v : V} {d : D} {u : Value}, Rp M H v d → RelV v u → ∃ as, Reads s.heap u d as
  | _, _, _, .non, r => by cases r; exact ⟨_, .none⟩
  | _, _, _, .bl b, r => by cases r; exact ⟨_, .bool b⟩
  | _, _, _, .int i, r => by obtain ⟨t, rfl⟩ := r; exact ⟨_, .int i t⟩
  | _, _, _, .str x _, r => by obtain ⟨t, rfl⟩ := r; exact ⟨_, .str x t⟩
  | _, _, _, .tup t n l h, r => by
    cases r
    obtain ⟨its, vi, ⟨o, g, c, k, e⟩, _⟩ := I.tuple t.sq
    obtain ⟨as, ra⟩ := RpAll.reads I h vi
    exact ⟨_, .tuple g c e (by simpa using ra)⟩
  | _, _, _, .lst t n l h, r => by
    cases r
    obtain ⟨_, its, k, vi, g⟩ := I.hok _ _ t
    obtain ⟨as, ra⟩ := RpAll.reads I h vi
    exact ⟨_, .list g rfl rfl (by simpa using ra)⟩
  | _, _, _, .dic e n h, r => by
    cases r
    obtain ⟨_, _, vs, kv, o, es, ep, g, x, dd, _, pr, _⟩ := I.hok _ _ e
    obtain ⟨bs, ra, rb⟩ := RpKV.reads I h kv pr
    exact ⟨_, .dict g x.1 dd ra rb⟩
theorem RpKV.reads {X : Cx} {pn : List (Addr × Obj)} {σ : L2.St} {M : Addr → Prop} {H : Hp} {s : Shared} (I : L2.Inv X pn σ H s) : ∀ {kvs : List (Key × V)} {es : List (D × D)} {us : List (Key × Value)} {el : List DictEntry}, RpKV M H kvs es → KV kvs us → Pairs (mixKind X.prog X.w) el us → ∃ bs, ReadsAll s.heap (el.map (·.key)) (es.map (·.1)) [] ∧ ReadsAll s.heap (el.map (·.val)) (es.map (·.2)) bs
  | _, _, _, _, .nil, kv, pr => by
    cases kv
    cases pr
    exact ⟨_, .nil, .nil⟩
  | _, _, _, _, .cons h t, kv, pr => by
    cases kv with
    | cons a kv =>
      cases pr with
      | cons k1 k2 pr =>
        obtain ⟨as, ra⟩ := Rp.reads I h a.2
        obtain ⟨bs, r1, r2⟩ := RpKV.reads I t kv pr
        refine ⟨as ++ bs, .cons (as := []) (key_reads (by have e := a.1; dsimp only at e; rw [e]; exact k1)) r1, .cons ?_ r2⟩
        dsimp only
        rw [k2]
        exact ra
theorem RpAll.reads {X : Cx} {pn : List (Addr × Obj)} {σ : L2.St} {M : Addr → Prop} {H : Hp} {s : Shared} (I : L2.Inv X pn σ H s) : ∀ {vs : List V} {ds : List D} {us : List Value}, RpAll M H vs ds → Vals vs us → ∃ as, ReadsAll s.heap us ds as
  | _, _, _, .nil, r => by cases r; exact ⟨_, .nil⟩
  | _, _, _, .cons h t, r => by
    cases r with
    | cons r1 r2 =>
      obtain ⟨as, ra⟩ := Rp.reads I h r1
      obtain ⟨bs, rb⟩ := RpAll.reads I t r2
      exact ⟨_, .cons ra rb⟩
end
end Dl
namespace Dl
open PySem PySem.Spec PyProof.Rows L2 Rt
def isStrD : D → Bool
  | .str _ => true
  | _ => false
def eqS (d : D) : Value → Bool
  | .str b _ => PyData.eqv (.str b) d
  | _ => false
theorem any_strs {M : Addr → Prop} {H : Hp} {d : D} : ∀ {vs : List V} {ds : List D} {us : List Value}, RpAll M H vs ds → Vals vs us → ds.all isStrD = true → us.any (eqS d) = ds.any fun z => PyData.eqv z d
  | _, _, _, .nil, r, _ => by cases r; rfl
  | _, _, _, .cons h t, r, e => by
    cases r with
    | cons r1 r2 =>
      have e := Bool.and_eq_true_iff.mp e
      cases h <;> try (exact absurd e.1 Bool.false_ne_true)
      obtain ⟨tk, rfl⟩ := r1
      exact congrArg _ (any_strs t r2 e.2)
theorem mem_strs {M : Addr → Prop} {H : Hp} : ∀ {vs : List V} {ds : List D} {us : List Value}, RpAll M H vs ds → Vals vs us → ds.all isStrD = true → ∀ y ∈ us, ∃ b t, y = .str b t
  | _, _, _, .nil, r, _ => by cases r; exact fun _ h => nomatch h
  | _, _, _, .cons h t, r, e => by
    cases r with
    | cons r1 r2 =>
      have e := Bool.and_eq_true_iff.mp e
      cases h <;> try (exact absurd e.1 Bool.false_ne_true)
      obtain ⟨tk, rfl⟩ := r1
      intro y hy
      rcases List.mem_cons.mp hy with rfl | hy
      · exact ⟨_, _, rfl⟩
      · exact mem_strs t r2 e.2 y hy
variable {X : Cx}
def inS : D → D → Option D
  | a, .tuple ds => if ds.all isStrD = true then some (.bool (ds.any fun z => PyData.eqv z a)) else none
  | _, _ => none
def ninS : D → D → Option D
  | a, .tuple ds => if ds.all isStrD = true then some (.bool (!ds.any fun z => PyData.eqv z a)) else none
  | _, _ => none
theorem o_inS (hu : X.A.units + 65 < cLine) : OpR X (compareOp .In) (rD inS) := by
  intro pn s σ H x y v u Q I rx ry h
  obtain ⟨M, a, b, d, dm, ra, rb, e, q⟩ := h
  cases rb <;> (try (cases ra <;> cases e; done))
  rename_i xs ds t n l r
  obtain ⟨l2, rfl⟩ := iteS (show (if ds.all isStrD = true then some (PyData.bool (ds.any fun z => PyData.eqv z a)) else none) = some d by cases a <;> exact e)
  cases ry
  obtain ⟨as, r1⟩ := Rp.reads I ra rx
  obtain ⟨its, vi, it, _⟩ := I.tuple t.sq
  refine SeqAt.in_tupleAt (eqS a) it (fun y hy => ?_) ⟨.bl _, H, I, ?_, q _ _ (Same.refl _) (.bl _)⟩
  · obtain ⟨b, tk, rfl⟩ := mem_strs r vi l2 y (by simpa using hy)
    exact eqAt_str_any b tk r1 (show X.A.units + 1 < cLine by omega)
  · show Value.bool _ = Value.bool _
    rw [← any_strs r vi l2]
    simp
theorem o_ninS (hu : X.A.units + 65 < cLine) : OpR X (compareOp .NotIn) (rD ninS) := by
  intro pn s σ H x y v u Q I rx ry h
  obtain ⟨M, a, b, d, dm, ra, rb, e, q⟩ := h
  cases rb <;> (try (cases ra <;> cases e; done))
  rename_i xs ds t n l r
  obtain ⟨l2, rfl⟩ := iteS (show (if ds.all isStrD = true then some (PyData.bool (!ds.any fun z => PyData.eqv z a)) else none) = some d by cases a <;> exact e)
  cases ry
  obtain ⟨as, r1⟩ := Rp.reads I ra rx
  obtain ⟨its, vi, it, _⟩ := I.tuple t.sq
  refine SeqAt.notIn_tupleAt (eqS a) it (fun y hy => ?_) ⟨.bl _, H, I, ?_, q _ _ (Same.refl _) (.bl _)⟩
  · obtain ⟨b, tk, rfl⟩ := mem_strs r vi l2 y (by simpa using hy)
    exact eqAt_str_any b tk r1 (show X.A.units + 1 < cLine by omega)
  · show Value.bool _ = Value.bool _
    rw [← any_strs r vi l2]
    simp
end Dl
namespace Dl
open PySem PySem.Spec PyProof.Rows L2 Rt
variable {X : Cx}
def neT0 : D → D → Option D
  | .tuple ds, .tuple [] => some (.bool (!ds.isEmpty))
  | _, _ => none
theorem o_neT0 (hu : X.A.units + 64 < cLine) : OpR X (compareOp .NotEq) (rD neT0) := by
  intro pn s σ H x y v u Q I rx ry h
  obtain ⟨M, a, b, d, dm, ra, rb, e, q⟩ := h
  cases ra <;> (try (cases rb <;> cases e; done))
  rename_i xs ds t n l r
  cases rb <;> (try (cases e; done))
  rename_i xs2 ds2 t2 n2 l2 r2
  cases r2 <;> (try (cases e; done))
  cases e
  cases rx
  cases ry
  obtain ⟨its, vi, it, _⟩ := I.tuple t.sq
  obtain ⟨its2, vi2, it2, _⟩ := I.tuple t2.sq
  cases vi2
  refine SeqAt.RcNeAt.tuples (e := fun _ => true) it it2 (by omega) (fun j _ h2 => absurd h2 (by simp)) _ _ _ _ ⟨.bl _, H, I, ?_, q _ _ (Same.refl _) (.bl _)⟩
  show Value.bool _ = Value.bool _
  congr 1
  cases r <;> cases vi <;> simp
end Dl
namespace Rt
open PySem PySem.Spec PyProof.Rows L2
section
variable {prog : Program} {w : World} {A : Around} {E : Value → Shared → Prop} {s : Shared}
theorem sa_rev {sl : Addr} {vl vu vk : Value} {n : Nat} {Q : Int × Int × Nat → Shared → Prop} (hs : s.heap.IsSliceOf sl vl vu vk) (pl : IsPart vl none) (pu : IsPart vu none) (pk : IsPart vk (some (-1)))
    (h : Q ((n : Int) - 1, -1, n) s) : wpAny (model prog w) A (Builtin.Slice.sliceApplied (.ref sl) (pure (n : Int))) Q E s := by
  obtain ⟨os, hos, hcs, hds⟩ := id hs
  unfold Builtin.Slice.sliceApplied Builtin.Slice.sliceFields
  refine wpAny_bind (wpAny_bind (wpAny_field hos hds (x := vl) rfl (wpAny_bind (wpAny_field hos hds (x := vu) rfl (wpAny_bind (wpAny_field hos hds (x := vk) rfl (wpAny_pure ?_)))))))
  refine wpAny_bind (HT.slicePart_ pk ?_)
  show wpAny _ _ (if ((-1 : Int) == 0) = true then _ else _) _ _ s
  rw [if_neg (by decide)]
  refine wpAny_bind (HT.slicePart_ pl (wpAny_bind (HT.slicePart_ pu (wpAny_bind (wpAny_pure ?_)))))
  have e1 : Builtin.Slice.sliceAdjust none none (-1) (n : Int) = ((n : Int) - 1, -1) := by
    unfold Builtin.Slice.sliceAdjust
    simp
  have e2 : Builtin.Slice.slicePlaces ((n : Int) - 1) (-1) (-1) = n := by
    unfold Builtin.Slice.slicePlaces
    rw [if_neg (by decide)]
    by_cases hn : (n : Int) - 1 > -1
    · rw [if_pos hn, show (-(-1) : Int) = 1 by decide, Int.ediv_one]
      omega
    · rw [if_neg hn]
      omega
  show wpAny _ _ (match Builtin.Slice.sliceAdjust none none (-1) (n : Int) with | (lo, hi) => pure (lo, (-1 : Int), Builtin.Slice.slicePlaces lo hi (-1))) _ _ s
  rw [e1]
  show wpAny _ _ (pure ((n : Int) - 1, (-1 : Int), Builtin.Slice.slicePlaces ((n : Int) - 1) (-1) (-1))) _ _ s
  rw [e2]
  exact wpAny_pure h
theorem fm_congr {α β : Type} {f g : α → Option β} : ∀ {l : List α}, (∀ x ∈ l, f x = g x) → l.filterMap f = l.filterMap g
  | [], _ => rfl
  | a :: r, h => by
    rw [List.filterMap_cons, List.filterMap_cons, h a List.mem_cons_self, fm_congr fun x hx => h x (List.mem_cons_of_mem _ hx)]
theorem pick_rev (xs : Array Value) : ((List.range xs.size).filterMap fun (m : Nat) => xs[(((xs.size : Int) - 1) + (m : Int) * (-1)).toNat]?).toArray = xs.toList.reverse.toArray := by
  congr 1
  have e : (List.range xs.size).filterMap (fun (m : Nat) => xs[(((xs.size : Int) - 1) + (m : Int) * (-1)).toNat]?) = (List.range xs.size).filterMap (fun (m : Nat) => xs.toList.reverse[m]?) := by
    refine fm_congr fun m hm => ?_
    have hm := List.mem_range.mp hm
    have e2 : (((xs.size : Int) - 1) + (m : Int) * (-1)).toNat = xs.size - 1 - m := by omega
    rw [e2, List.getElem?_reverse (by rw [Array.length_toList]; exact hm), Array.length_toList, Array.getElem?_toList]
  rw [e]
  have g : ∀ l : List Value, (List.range l.length).filterMap (fun m => l[m]?) = l := by
    intro l
    induction l with
    | nil => rfl
    | cons a r ih =>
      rw [List.length_cons, List.range_succ_eq_map, List.filterMap_cons]
      simp only [List.getElem?_cons_zero, List.filterMap_map]
      congr 1
  have := g xs.toList.reverse
  rwa [List.length_reverse, Array.length_toList] at this
theorem item_rev {t sl : Addr} {items : Array Value} {vl vu vk : Value} {Q : Value → Shared → Prop} (ht : IsTup s.heap t items) (hs : s.heap.IsSliceOf sl vl vu vk) (pl : IsPart vl none) (pu : IsPart vu none) (pk : IsPart vk (some (-1)))
    (h : Q (.ref s.heap.objs.size) { s with heap := s.heap.push { cls := .type "tuple", data := .seq items.toList.reverse.toArray } })
    (hsz : items.size ≤ sizeLine) : wpAny (model prog w) A (getItem (.ref t) (.ref sl)) Q E s := by
  have htk : sizeOk (.seq items.toList.reverse.toArray) := by
    show items.toList.reverse.toArray.size ≤ sizeLine
    rw [List.size_toArray, List.length_reverse, Array.length_toList]
    exact hsz
  obtain ⟨os, hos, hcs, hds⟩ := id hs
  have hT2 : s.TypeIs (.ref sl) "slice" := ⟨os, hos, hcs⟩
  unfold getItem
  try with_reducible refine wpAny_holding ?_
  first | refine wpAny_bind (wpAny_pure ?_) | skip
  refine wpAny_bind (wpAny_sequenceKey ht.typeIs (by decide) ?_)
  refine wpAny_bind (wpAny_callSpecial?_slot (name := Str.ofString "__getitem__") ht.typeIs PyProof.Rows.slot_tuple_getitem (wpAny_call_entry PyProof.Rows.slot_tuple_getitem ht.typeIs entry_tuple_getitem ?_ (args_tuple_getitem _ _)))
  show wpAny _ _ (Builtin.Tuple.tupleItemsOf (.ref t) >>= _) _ _ s
  refine wpAny_bind (tupleItemsOf_ ht (wpAny_bind (wpAny_typeOf hT2 ?_)))
  rw [if_pos (by decide)]
  refine wpAny_bind (sa_rev (n := items.size) hs pl pu pk ?_)
  have hno : ¬ ((((items.size : Int) - 1) == 0 && (-1 : Int) == 1 && items.size == items.size) = true) := by
    intro z
    rw [Bool.and_eq_true, Bool.and_eq_true] at z
    exact absurd z.1.2 (by decide)
  show wpAny _ _ (if (((items.size : Int) - 1) == 0 && (-1 : Int) == 1 && items.size == items.size) = true then _ else _) _ _ s
  rw [if_neg hno, pick_rev]
  first
    | exact wpAny_bind (m := Builtin.Tuple.tupleExact _) (wpAny_newObj_type (wpAny_pure ⟨_, rfl, wpAny_pure h⟩) htk)
    | exact wpAny_bind (m := Builtin.Tuple.tupleExact _) (wpAny_newObj_type (wpAny_bind (wpAny_pure (wpAny_pure ⟨_, rfl, wpAny_pure h⟩))) htk)
    | exact wpAny_bind (wpAny_bind (m := Builtin.Tuple.tupleExact _) (wpAny_newObj_type (wpAny_pure (wpAny_pure ⟨_, rfl, wpAny_pure h⟩)) htk))
    | exact wpAny_bind (wpAny_bind (m := Builtin.Tuple.tupleExact _) (wpAny_newObj_type (wpAny_pure ⟨_, rfl, wpAny_pure h⟩) htk))
end
section
variable {X : Cx}
def tRevT (K : PySem.W.Frag) (te : TE) : TE := fun σ H Q => te σ H fun x H1 => ∃ a xs, x = .ref a ∧ SqT K H1 a xs ∧ ∀ p, H1 p = none → Q (.ref p) (upd H1 p (.tup xs.reverse))
theorem pe_revT {e : Expr} {te : TE} {k : Nat} {p1 p2 p3 pos : Pos} (he : PE X e te) : PE X (.Subscript e (.Slice none none (some (.UnaryOp .USub (.Constant (.int 1) k p1) p2)) p3) pos) (tRevT X.K te) := by
  refine ⟨fun pn s σ H Q I h => ?_⟩
  refine Subscript_ (thn (he.run pn s σ H _ I h) fun v s1 ⟨x, H1, I1, r1, q1⟩ => ?_)
  obtain ⟨a, xs, ex, hx, q⟩ := q1
  subst ex
  cases r1
  have hst : PO X (some (.UnaryOp .USub (.Constant (.int 1) k p1) p2)) (tPart (tUn (rU fun i => .int (-i)) (tC (.int 1)))) := po_some (pe_un un_neg pe_int)
  refine wpAny_Slice (thn (po_none.run pn s1 σ H1 (fun o H2 => o = none ∧ H2 = H1) I1 ⟨rfl, rfl⟩) fun vl s2 ⟨l, H2, I2, pl, el, e2⟩ => ?_)
  subst el e2
  refine thn (po_none.run pn s2 σ H2 (fun o H3 => o = none ∧ H3 = H2) I2 ⟨rfl, rfl⟩) fun vu s3 ⟨u, H3, I3, pu, eu, e3⟩ => ?_
  subst eu e3
  refine thn (hst.run pn s3 σ H3 (fun o H4 => o = some (-1) ∧ H4 = H3) I3 ⟨1, rfl, -1, rfl, rfl, rfl⟩) fun vs s4 ⟨o, H4, I4, ps, eo, e4⟩ => ?_
  subst eo e4
  have I5 : Inv X pn σ H4 { s4 with heap := s4.heap.push { cls := .type "slice", data := .fields #[vl, vu, vs] } } := I4.kept (t' := s4.toks) fun b ob q => Heap.get?_push_of_some _ q
  obtain ⟨its, r, ht, hz⟩ := I5.tuple hx
  have hlen := r.length
  show wpAny (model X.prog X.w) X.A (subscriptTail e (.Slice none none (some (.UnaryOp .USub (.Constant (.int 1) k p1) p2)) p3) (.ref a) (.ref s4.heap.objs.size)) (EP X pn σ Q) X.xe { s4 with heap := s4.heap.push { cls := .type "slice", data := .fields #[vl, vu, vs] } }
  refine tail_any (ops := [.ref a, .ref s4.heap.objs.size]) ht.typeIs (PyProof.Rows.slot_tuple_getitem.lookup) ?_ (by with_unfolding_all rfl)
  refine item_rev ht (Heap.IsSliceOf.new _ vl vu vs) pl pu ps ?_ (by rw [List.size_toArray]; omega)
  refine ⟨.ref _, _, I5.laid (t' := s4.toks) (o := .tup xs.reverse) (fun b ob q => Heap.get?_push_of_some _ q) (Nat.le_refl _) ?_, rfl, q _ (I5.hok.fresh (Nat.le_refl _))⟩
  exact ⟨by rw [List.length_reverse]; exact hz, _, r.reverse, IsTup.new _ _⟩
end
end Rt
namespace Dl
open PySem PySem.Spec PyProof.Rows L2 Rt
/-! ### data of any sort: texts of true signs, tuples that aren't too long -/
mutual
def gq : D → Bool
  | .str z => PyData.strOk z
  | .tuple ds => decide (ds.length ≤ 1000) && gqAll ds
  | _ => true
def gqAll : List D → Bool
  | [] => true
  | d :: ds => gq d && gqAll ds
end
theorem gqAll.mem : ∀ {ds : List D}, gqAll ds = true → ∀ d ∈ ds, gq d = true
  | [], _ => fun d m => nomatch m
  | x :: xs, h => by
    have h := Bool.and_eq_true_iff.mp (show (gq x && gqAll xs) = true from h)
    intro d m
    rcases List.mem_cons.mp m with e | e
    · rw [e]; exact h.1
    · exact gqAll.mem h.2 d e
theorem gqAll.of : ∀ {ds : List D}, (∀ d ∈ ds, gq d = true) → gqAll ds = true
  | [], _ => rfl
  | x :: xs, h => Bool.and_eq_true_iff.mpr ⟨h x (by simp), gqAll.of fun d m => h d (by simp [m])⟩
theorem gq.two {ds : List D} (h : gq (.tuple ds) = true) : ds.length ≤ 1000 ∧ ∀ d ∈ ds, gq d = true := by
  have h := Bool.and_eq_true_iff.mp (show (decide (ds.length ≤ 1000) && gqAll ds) = true from h)
  exact ⟨of_decide_eq_true h.1, gqAll.mem h.2⟩
theorem gq.tup {ds : List D} (h : gq (.tuple ds) = true) : ∀ d ∈ ds, gq d = true := (gq.two h).2
def okK : D → Bool
  | .tuple ks => ks.all isStrD
  | _ => false
theorem ninS_tup {a : D} {ks : List D} (_h : gq a = true) (k : okK (.tuple ks) = true) : ninS a (.tuple ks) = some (.bool (!ks.any fun z => PyData.eqv z a)) := by
  cases a <;> exact if_pos k
theorem inS_tup {a : D} {ks : List D} (_h : gq a = true) (k : okK (.tuple ks) = true) : inS a (.tuple ks) = some (.bool (ks.any fun z => PyData.eqv z a)) := by
  cases a <;> exact if_pos k
section
variable {X : Cx}
/-- a list beside [] -/
def neL0 : D → D → Option D
  | .list ds, .list [] => some (.bool (!ds.isEmpty))
  | _, _ => none
theorem o_neL0 (hu : X.A.units + 64 < cLine) : OpR X (compareOp .NotEq) (rD neL0) := by
  intro pn s σ H x y v u Q I rx ry h
  obtain ⟨M, a, b, d, dm, ra, rb, e, q⟩ := h
  cases ra <;> (try (cases rb <;> cases e; done))
  rename_i xs ds t n l r
  cases rb <;> (try (cases e; done))
  rename_i xs2 ds2 t2 n2 l2 r2
  cases r2 <;> (try (cases e; done))
  cases e
  cases rx
  cases ry
  obtain ⟨_, its, k, vi, g⟩ := I.hok _ _ t
  obtain ⟨_, its2, k2, vi2, g2⟩ := I.hok _ _ t2
  cases vi2
  cases r with
  | nil =>
    cases vi
    refine SeqAt.RcNeAt.lists (e := fun _ => true) ⟨_, g, rfl, _, rfl⟩ ⟨_, g2, rfl, _, rfl⟩ rfl (by omega) (fun j h1 _ => absurd h1 (by simp)) _ _ _ _ ⟨.bl _, H, I, ?_, q _ _ (Same.refl _) (.bl _)⟩
    show Value.bool _ = Value.bool _
    simp
  | cons h1 h2 =>
    cases vi
    refine SeqAt.RcNeAt.lists_lengths ⟨_, g, rfl, _, rfl⟩ ⟨_, g2, rfl, _, rfl⟩ (by simp) (by omega) _ _ _ _ ⟨.bl _, H, I, ?_, q _ _ (Same.refl _) (.bl _)⟩
    rfl
/-- truths among numbers -/
def addX : D → D → Option D
  | .bool a, .int j => some (.int ((if a = true then (1 : Int) else 0) + j))
  | a, b => addD a b
def subX : D → D → Option D
  | .bool a, .int j => some (.int ((if a = true then (1 : Int) else 0) - j))
  | a, b => subD a b
theorem o_addX : OpR X (binaryOp .Add) (rD addX) := by
  intro pn s σ H x y v u Q I rx ry h
  obtain ⟨M, a, b, d, dm, ra, rb, e, q⟩ := h
  by_cases hb : ∃ k j, a = .bool k ∧ b = .int j
  · obtain ⟨k, j, rfl, rfl⟩ := hb
    cases e
    cases ra
    cases rb
    cases rx
    obtain ⟨t, rfl⟩ := ry
    exact PySem.IntBool.add_bool_int ⟨.int _, H, I.tok _, ⟨_, rfl⟩, q _ _ (Same.refl _) (.int _)⟩
  · refine o_add pn s σ H _ _ v u Q I rx ry ⟨M, a, b, d, dm, ra, rb, ?_, q⟩
    unfold addX at e
    split at e
    · exact (hb ⟨_, _, rfl, rfl⟩).elim
    · exact e
theorem o_subX : OpR X (binaryOp .Sub) (rD subX) := by
  intro pn s σ H x y v u Q I rx ry h
  obtain ⟨M, a, b, d, dm, ra, rb, e, q⟩ := h
  by_cases hb : ∃ k j, a = .bool k ∧ b = .int j
  · obtain ⟨k, j, rfl, rfl⟩ := hb
    cases e
    cases ra
    cases rb
    cases rx
    obtain ⟨t, rfl⟩ := ry
    exact PySem.IntBool.sub_bool_int ⟨.int _, H, I.tok _, ⟨_, rfl⟩, q _ _ (Same.refl _) (.int _)⟩
  · refine o_sub pn s σ H _ _ v u Q I rx ry ⟨M, a, b, d, dm, ra, rb, ?_, q⟩
    unfold subX at e
    split at e
    · exact (hb ⟨_, _, rfl, rfl⟩).elim
    · exact e
/-- slices of texts, too -/
def slX : D → Option Int → Option Int → Option D
  | .str z, lo, hi => some (.str (cutS z lo hi))
  | d, lo, hi => slD d lo hi
def rSlX' : V → Option Int → Option Int → Hp → VK → Prop := fun x lo hi H Q => ∃ M a d, Dom M H ∧ Rp M H x a ∧ slX a lo hi = some d ∧ ∀ v H', Same H H' → Rp M H' v d → Q v H'
theorem s_slX : SlR X rSlX' := by
  intro pn s σ H x v vl vu lo hi sl Q I rx hs pl pu h
  obtain ⟨M, a, d, dm, ra, e, q⟩ := h
  by_cases hz : ∃ z, a = .str z
  · obtain ⟨z, rfl⟩ := hz
    cases e
    cases ra
    rename_i hz
    exact sl_str pn s σ H _ v vl vu lo hi sl Q I rx hs pl pu ⟨z, rfl, hz, q _ _ (Same.refl _) (.str _ (Nat.le_trans (cutS_length _ _ _) hz))⟩
  · refine s_sl pn s σ H _ v vl vu lo hi sl Q I rx hs pl pu ⟨M, a, d, dm, ra, ?_, q⟩
    cases a <;> first | exact e | exact (hz ⟨_, rfl⟩).elim
def eSlX (f : EF) (lo hi : Rho → Option (Option Int)) : EF := fun ρ => (f ρ).bind fun d => (lo ρ).bind fun l => (hi ρ).bind fun h => slX d l h
theorem dE_slX {e : Expr} {lo hi : Option Expr} {pos p2 : Pos} {f : EF} {g h : Rho → Option (Option Int)} {μ : Bool} (he : PE X e (tD μ f)) (hl : PO X lo (tPo g)) (hh : PO X hi (tPo h)) : PE X (.Subscript e (.Slice lo hi none p2) pos) (tD μ (eSlX f g h)) := (pe_slice s_slX he hl hh).wk fun σ H Q q => by
  obtain ⟨M0, H0, ρ, d, R, e, q⟩ := q
  obtain ⟨d1, e1, e⟩ := some_bind e
  obtain ⟨l, el, e⟩ := some_bind e
  obtain ⟨u, eu, e⟩ := some_bind e
  exact ⟨M0, H0, ρ, d1, R, e1, fun v H1 s1 r1 => ⟨M0, H0, ρ, l, R.mono s1, el, fun H2 s2 => ⟨M0, H0, ρ, u, R.mono (s1.trans s2), eu, fun H3 s3 => ⟨_, d1, d, (R.mono ((s1.trans s2).trans s3)).domu μ, r1.mono (.of (s2.trans s3)), e, fun v H4 s4 r4 => q v H4 (((s1.trans s2).trans s3).trans s4) r4⟩⟩⟩⟩
/-- t[::-1] -/
def tRevF (K : PySem.W.Frag) (te : TE) : TE := fun σ H Q => te σ H fun x H1 => ∃ a xs, x = .ref a ∧ SqT K H1 a xs ∧ ∀ p H', H1 p = none → Same H1 H' → TupF H' p xs.reverse → Q (.ref p) H'
theorem pe_revF {e : Expr} {te : TE} {k : Nat} {p1 p2 p3 pos : Pos} (he : PE X e te) : PE X (.Subscript e (.Slice none none (some (.UnaryOp .USub (.Constant (.int 1) k p1) p2)) p3) pos) (tRevF X.K te) := by
  refine ⟨fun pn s σ H Q I h => ?_⟩
  refine Subscript_ (thn (he.run pn s σ H _ I h) fun v s1 ⟨x, H1, I1, r1, q1⟩ => ?_)
  obtain ⟨a, xs, ex, hx, q⟩ := q1
  subst ex
  cases r1
  have hst : PO X (some (.UnaryOp .USub (.Constant (.int 1) k p1) p2)) (tPart (tUn (rU fun i => .int (-i)) (tC (.int 1)))) := po_some (pe_un un_neg pe_int)
  refine wpAny_Slice (thn (po_none.run pn s1 σ H1 (fun o H2 => o = none ∧ H2 = H1) I1 ⟨rfl, rfl⟩) fun vl s2 ⟨l, H2, I2, pl, el, e2⟩ => ?_)
  subst el e2
  refine thn (po_none.run pn s2 σ H2 (fun o H3 => o = none ∧ H3 = H2) I2 ⟨rfl, rfl⟩) fun vu s3 ⟨u, H3, I3, pu, eu, e3⟩ => ?_
  subst eu e3
  refine thn (hst.run pn s3 σ H3 (fun o H4 => o = some (-1) ∧ H4 = H3) I3 ⟨1, rfl, -1, rfl, rfl, rfl⟩) fun vs s4 ⟨o, H4, I4, ps, eo, e4⟩ => ?_
  subst eo e4
  have I5 : Inv X pn σ H4 { s4 with heap := s4.heap.push { cls := .type "slice", data := .fields #[vl, vu, vs] } } := I4.kept (t' := s4.toks) fun b ob q => Heap.get?_push_of_some _ q
  obtain ⟨its, r, ht, hz⟩ := I5.tuple hx
  have hlen := r.length
  show wpAny (model X.prog X.w) X.A (subscriptTail e (.Slice none none (some (.UnaryOp .USub (.Constant (.int 1) k p1) p2)) p3) (.ref a) (.ref s4.heap.objs.size)) (EP X pn σ Q) X.xe { s4 with heap := s4.heap.push { cls := .type "slice", data := .fields #[vl, vu, vs] } }
  refine tail_any (ops := [.ref a, .ref s4.heap.objs.size]) ht.typeIs (PyProof.Rows.slot_tuple_getitem.lookup) ?_ (by with_unfolding_all rfl)
  refine item_rev ht (Heap.IsSliceOf.new _ vl vu vs) pl pu ps ?_ (by rw [List.size_toArray]; omega)
  have fr := I5.hok.fresh (Nat.le_refl _)
  exact ⟨.ref _, _, Inv.tupF I5 r.reverse (by rw [List.length_reverse]; exact hz), rfl, q _ _ fr (smN fr) updF⟩
def revD : D → Option D
  | .tuple ds => some (.tuple ds.reverse)
  | _ => none
theorem RpAll.rev {M : Addr → Prop} {H : Hp} : ∀ {vs : List V} {ds : List D}, RpAll M H vs ds → RpAll M H vs.reverse ds.reverse
  | _, _, .nil => .nil
  | _, _, .cons h t => by rw [List.reverse_cons, List.reverse_cons]; exact t.rev.app (.cons h .nil)
theorem dE_rev {e : Expr} {k : Nat} {p1 p2 p3 pos : Pos} {f : EF} {μ : Bool} (h : PE X e (tD μ f)) : PE X (.Subscript e (.Slice none none (some (.UnaryOp .USub (.Constant (.int 1) k p1) p2)) p3) pos) (tD μ (e1 revD f)) := (pe_revF h).wk fun σ H Q q => by
  obtain ⟨M0, H0, ρ, d, R, e, q⟩ := q
  obtain ⟨d1, e1, e⟩ := some_bind e
  refine ⟨M0, H0, ρ, d1, R, e1, fun v H1 s1 r1 => ?_⟩
  cases r1 <;> try (cases e; done)
  rename_i t n l r
  cases e
  exact ⟨_, _, rfl, t.sq, fun p H2 np s2 t2 => q _ H2 (s1.trans s2) (.tup t2 (((R.mono s1).domu μ).not np) (by rw [List.length_reverse]; exact l) (r.rev.mono (.of s2)))⟩
/-- {} -/
theorem dE_dic0 {pos : Pos} {μ : Bool} : PE X (.Dict [] [] pos) (tD μ (eC (.dict []))) := pe_dnewK.wk fun σ H Q q => by
  obtain ⟨M0, H0, ρ, d, R, e, q⟩ := q
  cases e
  exact fun p np => q _ _ (smN np) (.dic upd_same ((R.domu μ).not np) .nil)
/-! ### shown -/
mutual
theorem Rp.readsN {X : Cx} {pn : List (Addr × Obj)} {σ : L2.St} {M : Addr → Prop} {H : Hp} {s : Shared} (I : L2.Inv X pn σ H s) (hB : ∃ o, X.base.get? sysModules = some o) : ∀ {v : V} {d : D} {u : Value}, Rp M H v d → RelV v u → ∃ as, Reads s.heap u d as ∧ sysModules ∉ as
  | _, _, _, .non, r => by cases r; exact ⟨_, .none, by simp⟩
  | _, _, _, .bl b, r => by cases r; exact ⟨_, .bool b, by simp⟩
  | _, _, _, .int i, r => by obtain ⟨t, rfl⟩ := r; exact ⟨_, .int i t, by simp⟩
  | _, _, _, .str x _, r => by obtain ⟨t, rfl⟩ := r; exact ⟨_, .str x t, by simp⟩
  | _, _, _, .tup t n l h, r => by
    cases r
    obtain ⟨its, vi, ⟨o, g, c, k, e⟩, _⟩ := I.tuple t.sq
    obtain ⟨as, ra, na⟩ := RpAll.readsN I hB h vi
    exact ⟨_, .tuple g c e (by simpa using ra), na⟩
  | _, _, _, .lst t n l h, r => by
    cases r
    obtain ⟨_, its, k, vi, g⟩ := I.hok _ _ t
    obtain ⟨as, ra, na⟩ := RpAll.readsN I hB h vi
    refine ⟨_, .list g rfl rfl (by simpa using ra), fun m => ?_⟩
    rcases List.mem_cons.mp m with z | z
    · obtain ⟨o, hB⟩ := hB
      have := (I.bs _ _ hB).2
      rw [z, t] at this
      cases this
    · exact na z
  | _, _, _, .dic e n h, r => by
    cases r
    have hs := (dk_of I.hok e).2.1
    obtain ⟨_, _, vs, kv, o, es, ep, g, x, dd, _, pr, _⟩ := I.hok _ _ e
    obtain ⟨bs, ra, rb, nb⟩ := RpKV.readsN I hB h kv pr
    exact ⟨_, .dict g x.1 dd ra rb, fun m => by
      rcases List.mem_append.mp m with m | m
      · rcases List.mem_cons.mp m with z | z
        · exact beq_eq_false_iff_ne.mp hs z.symm
        · cases z
      · exact nb m⟩
theorem RpKV.readsN {X : Cx} {pn : List (Addr × Obj)} {σ : L2.St} {M : Addr → Prop} {H : Hp} {s : Shared} (I : L2.Inv X pn σ H s) (hB : ∃ o, X.base.get? sysModules = some o) : ∀ {kvs : List (Key × V)} {es : List (D × D)} {us : List (Key × Value)} {el : List DictEntry}, RpKV M H kvs es → KV kvs us → Pairs (mixKind X.prog X.w) el us → ∃ bs, ReadsAll s.heap (el.map (·.key)) (es.map (·.1)) [] ∧ ReadsAll s.heap (el.map (·.val)) (es.map (·.2)) bs ∧ sysModules ∉ bs
  | _, _, _, _, .nil, kv, pr => by
    cases kv
    cases pr
    exact ⟨_, .nil, .nil, by simp⟩
  | _, _, _, _, .cons h t, kv, pr => by
    cases kv with
    | cons a kv =>
      cases pr with
      | cons k1 k2 pr =>
        obtain ⟨as, ra, na⟩ := Rp.readsN I hB h a.2
        obtain ⟨bs, r1, r2, nb⟩ := RpKV.readsN I hB t kv pr
        refine ⟨as ++ bs, .cons (as := []) (key_reads (by have e := a.1; dsimp only at e; rw [e]; exact k1)) r1, .cons ?_ r2, by simp [na, nb]⟩
        dsimp only
        rw [k2]
        exact ra
theorem RpAll.readsN {X : Cx} {pn : List (Addr × Obj)} {σ : L2.St} {M : Addr → Prop} {H : Hp} {s : Shared} (I : L2.Inv X pn σ H s) (hB : ∃ o, X.base.get? sysModules = some o) : ∀ {vs : List V} {ds : List D} {us : List Value}, RpAll M H vs ds → Vals vs us → ∃ as, ReadsAll s.heap us ds as ∧ sysModules ∉ as
  | _, _, _, .nil, r => by cases r; exact ⟨_, .nil, by simp⟩
  | _, _, _, .cons h t, r => by
    cases r with
    | cons r1 r2 =>
      obtain ⟨as, ra, na⟩ := Rp.readsN I hB h r1
      obtain ⟨bs, rb, nb⟩ := RpAll.readsN I hB t r2
      exact ⟨_, .cons ra rb, by simp [na, nb]⟩
end
def reprD : List D → Option D
  | [d] => if d.showable = true ∧ d.depth ≤ 60 ∧ d.shown.length ≤ sizeLine then some (.str d.shown) else none
  | _ => none
theorem c_repr (free : X.A.guards = some []) (hB : ∃ o, X.base.get? sysModules = some o) (hu : X.A.units + 64 < cLine) : CallR X (.builtin "repr") (rC reprD) := by
  intro pn s σ H xs us Q I r h
  obtain ⟨M, ds, d, dm, ra, e, q⟩ := h
  match ds, ra, e with
  | [], _, e => cases e
  | [x], .cons rx .nil, e =>
    obtain ⟨u, rfl, r1⟩ := vals1 r
    obtain ⟨⟨l1, l2, l3⟩, rfl⟩ := iteS e
    obtain ⟨as, rd, na⟩ := Rp.readsN I hB rx r1
    have fin : ∀ (h' : Heap) (u : Tok) (tk : Tok), (∀ b o, s.heap.get? b = some o → h'.get? b = some o) → EP X pn σ Q (.str x.shown u) { s with heap := h', toks := tk } := fun h' u tk hk => ⟨.str _, H, I.kept hk, ⟨_, rfl⟩, q _ _ (Same.refl _) (.str _ l3)⟩
    cases rd with
    | none => exact PySem.P.repr_of_none (fin s.heap _ _ fun _ _ e => e)
    | bool b => exact PySem.P.repr_of_bool (by cases b <;> exact fin s.heap _ _ fun _ _ e => e)
    | int i t => exact PySem.P.repr_of_int (of_decide_eq_true l1) (fin s.heap _ _ fun _ _ e => e)
    | str z t => exact PySem.P.repr_of_str (fin s.heap _ _ fun _ _ e => e) l3
    | list a b c d => exact repr_of_reads' (.list a b c d) l1 (fun _ => na) free (by omega) (fun _ _ e => e) fin l3
    | tuple a b c d => exact repr_of_reads' (.tuple a b c d) l1 (fun _ => na) free (by omega) (fun _ _ e => e) fin l3
    | dict a b c d f => exact repr_of_reads' (.dict a b c d f) l1 (fun _ => na) free (by omega) (fun _ _ e => e) fin l3
  | _ :: _ :: _, _, e => cases e
end
end Dl
namespace Dl
open PySem PySem.Spec PyProof.Rows L2 Rt
/-! ### going through a body, step by step -/
theorem ev_guard {c : Rho → Option Bool} {e : EF} {g : Rho → Option Out} {ρ : Rho} {b : Bool} {d : D} (hc : c ρ = some b) (he : e ρ = some d) : sSeq (sIf c (sRet e) sNil) g ρ = if b = true then some (.rt d) else g ρ := by
  unfold sSeq sIf
  rw [hc]
  cases b with
  | true =>
    show ((sRet e ρ).bind _) = _
    unfold sRet
    rw [he]
    rfl
  | false => rfl
theorem ev_if {c : Rho → Option Bool} {f h g : Rho → Option Out} {ρ : Rho} {b : Bool} (hc : c ρ = some b) : sSeq (sIf c f h) g ρ = if b = true then sSeq f g ρ else sSeq h g ρ := by
  unfold sSeq sIf
  rw [hc]
  cases b <;> rfl
theorem ev_nil {g : Rho → Option Out} {ρ : Rho} : sSeq sNil g ρ = g ρ := rfl
theorem ev_retS {e : EF} {g : Rho → Option Out} {ρ : Rho} {d : D} (he : e ρ = some d) : sSeq (sRet e) g ρ = some (.rt d) := by
  unfold sSeq sRet
  rw [he]
  rfl
theorem ev_asg {p : Pat} {f : EF} {g : Rho → Option Out} {ρ ρ' : Rho} {d : D} (hf : f ρ = some d) (hb : bindP p d ρ = some ρ') : sSeq (sAsg p f) g ρ = g ρ' := by
  unfold sSeq sAsg
  rw [hf]
  show ((bindP p d ρ).map Out.nx).bind _ = _
  rw [hb]
  rfl
theorem ev_seq {f g : Rho → Option Out} {ρ ρ' : Rho} (hf : f ρ = some (.nx ρ')) : sSeq f g ρ = g ρ' := by
  unfold sSeq
  rw [hf]
  rfl
theorem ev_seqR {f g : Rho → Option Out} {ρ : Rho} {d : D} (hf : f ρ = some (.rt d)) : sSeq f g ρ = some (.rt d) := by
  unfold sSeq
  rw [hf]
  rfl
theorem ev_ret {e : EF} {ρ : Rho} {d : D} (he : e ρ = some d) : sRet e ρ = some (.rt d) := by
  unfold sRet
  rw [he]
  rfl
theorem ev_ifR {c : Rho → Option Bool} {f h : Rho → Option Out} {ρ : Rho} {b : Bool} (hc : c ρ = some b) : sIf c f h ρ = if b = true then f ρ else h ρ := by
  unfold sIf
  rw [hc]
  rfl
/-- a loop whose body tells of each item whether to go on -/
theorem ev_for {p : Pat} {body : Rho → Option Out} {t : D → Option D} (I : Rho → Prop) (hb : ∀ x ρ, I ρ → ∃ ρ1, bindP p x ρ = some ρ1 ∧ ((t x = none ∧ ∃ ρ2, I ρ2 ∧ body ρ1 = some (.nx ρ2)) ∨ ∃ d, t x = some d ∧ body ρ1 = some (.rt d))) :
    ∀ (xs : List D) (ρ : Rho), I ρ → (∃ ρ', I ρ' ∧ xs.findSome? t = none ∧ forGo p body xs ρ = some (.nx ρ')) ∨ ∃ d, xs.findSome? t = some d ∧ forGo p body xs ρ = some (.rt d)
  | [], ρ, i => .inl ⟨ρ, i, rfl, rfl⟩
  | x :: xs, ρ, i => by
    obtain ⟨ρ1, e1, h⟩ := hb x ρ i
    rcases h with ⟨ht, ρ2, i2, e2⟩ | ⟨d, ht, e2⟩
    · rcases ev_for I hb xs ρ2 i2 with ⟨ρ', i', e3, e4⟩ | ⟨d, e3, e4⟩
      · refine .inl ⟨ρ', i', by rw [List.findSome?_cons, ht]; exact e3, ?_⟩
        unfold forGo
        rw [e1]
        show (body ρ1).bind _ = _
        rw [e2]
        exact e4
      · refine .inr ⟨d, by rw [List.findSome?_cons, ht]; exact e3, ?_⟩
        unfold forGo
        rw [e1]
        show (body ρ1).bind _ = _
        rw [e2]
        exact e4
    · refine .inr ⟨d, by rw [List.findSome?_cons, ht], ?_⟩
      unfold forGo
      rw [e1]
      show (body ρ1).bind _ = _
      rw [e2]
      rfl
/-- a comprehension that tells one thing of each item -/
theorem ev_lc {i : Nat} {f : EF} {ρ : Rho} {t : D → D} (hi : i < ρ.length) : ∀ (xs : List D), (∀ x ∈ xs, f (ρ.set i (some (.dat x))) = some (t x)) → lcGo (.nm i) oYes f ρ xs = some (xs.map t)
  | [], _ => rfl
  | x :: xs, h => by
    unfold lcGo bindP
    rw [if_pos hi]
    show (f (ρ.set i (some (.dat x)))).bind _ = _
    rw [h x (by simp)]
    show (lcGo _ _ _ _ xs).map _ = _
    rw [ev_lc hi xs fun y hy => h y (by simp [hy])]
    rfl
/-- .. and picks -/
theorem ev_lcIf {i : Nat} {c : Rho → Option Bool} {f : EF} {ρ : Rho} {k : D → Bool} {t : D → D} (hi : i < ρ.length) : ∀ (xs : List D), (∀ x ∈ xs, c (ρ.set i (some (.dat x))) = some (k x)) → (∀ x ∈ xs, k x = true → f (ρ.set i (some (.dat x))) = some (t x)) → lcGo (.nm i) c f ρ xs = some ((xs.filter k).map t)
  | [], _, _ => rfl
  | x :: xs, h, h2 => by
    unfold lcGo bindP
    rw [if_pos hi]
    show (c (ρ.set i (some (.dat x)))).bind _ = _
    rw [h x (by simp)]
    show (if k x = true then _ else _) = _
    have ih := ev_lcIf hi xs (fun y hy => h y (by simp [hy])) (fun y hy => h2 y (by simp [hy]))
    cases e : k x with
    | true =>
      rw [if_pos rfl, h2 x (by simp) e]
      show (lcGo _ _ _ _ xs).map _ = _
      rw [ih, List.filter_cons_of_pos e]
      rfl
    | false =>
      rw [if_neg (by simp), ih, List.filter_cons_of_neg (by simp [e])]
theorem bools_map {α : Type} (t : α → Bool) : ∀ xs : List α, boolsD (xs.map fun x => .bool (t x)) = some (xs.map t)
  | [] => rfl
  | x :: xs => by
    show (boolsD (xs.map fun x => .bool (t x))).map _ = _
    rw [bools_map t xs]
    rfl
theorem okD_all : ∀ (ds : List D), PyData.canLayAll0 ds = true → PyData.depthAll ds + 1 ≤ 64 → PyData.hasDictAll ds = false → ∀ d ∈ ds, okD d = true
  | [], _, _, _ => fun d m => nomatch m
  | x :: xs, c, dp, hd => by
    have c2 := Bool.and_eq_true_iff.mp (show (x.canLay0 && PyData.canLayAll0 xs) = true from c)
    have hd2 := Bool.or_eq_false_iff.mp (show (x.hasDict || PyData.hasDictAll xs) = false from hd)
    have dp2 : max x.depth (PyData.depthAll xs) + 1 ≤ 64 := dp
    intro d m
    rcases List.mem_cons.mp m with e | e
    · subst e
      unfold okD SeqAt.shaped
      rw [hd2.1, c2.1]
      have : d.depth ≤ 64 := by omega
      simp [this]
    · exact okD_all xs c2.2 (by omega) hd2.2 d e
theorem okD.tup {ds : List D} (h : okD (.tuple ds) = true) : ∀ d ∈ ds, okD d = true := by
  obtain ⟨h1, h2⟩ := okD.parts h
  have h2 := Bool.and_eq_true_iff.mp h2
  exact okD_all ds h2.1 (of_decide_eq_true h2.2) h1
theorem dep_all : ∀ (ds : List D) (n : Nat), PyData.depthAll ds ≤ n → ∀ d ∈ ds, d.depth ≤ n
  | [], _, _ => fun d m => nomatch m
  | x :: xs, n, h => by
    have h : max x.depth (PyData.depthAll xs) ≤ n := h
    intro d m
    rcases List.mem_cons.mp m with e | e
    · subst e; omega
    · exact dep_all xs n (by omega) d e
theorem okD.tupD {ds : List D} (h : okD (.tuple ds) = true) : ∀ d ∈ ds, okD d = true ∧ d.depth ≤ 63 := fun d m => by
  refine ⟨okD.tup h d m, ?_⟩
  obtain ⟨_, h2⟩ := okD.parts h
  have h2 := Bool.and_eq_true_iff.mp h2
  have h3 : PyData.depthAll ds + 1 ≤ 64 := of_decide_eq_true h2.2
  exact dep_all ds 63 (by omega) d m
theorem okAll : ∀ (ds : List D), (∀ d ∈ ds, okD d = true ∧ d.depth ≤ 63) → PyData.canLayAll0 ds = true ∧ PyData.depthAll ds ≤ 63 ∧ PyData.hasDictAll ds = false
  | [], _ => ⟨rfl, Nat.zero_le _, rfl⟩
  | x :: xs, h => by
    obtain ⟨a, b, c⟩ := okAll xs fun d m => h d (by simp [m])
    obtain ⟨o, dx⟩ := h x (by simp)
    obtain ⟨o1, o2⟩ := okD.parts o
    have o2 := Bool.and_eq_true_iff.mp o2
    refine ⟨Bool.and_eq_true_iff.mpr ⟨o2.1, a⟩, ?_, Bool.or_eq_false_iff.mpr ⟨o1, c⟩⟩
    show max x.depth (PyData.depthAll xs) ≤ 63
    omega
theorem okL {ds : List D} (h : ∀ d ∈ ds, okD d = true ∧ d.depth ≤ 63) : okD (.list ds) = true := by
  obtain ⟨a, b, c⟩ := okAll ds h
  unfold okD SeqAt.shaped
  rw [show (PyData.list ds).hasDict = PyData.hasDictAll ds from rfl, c, show (PyData.list ds).canLay0 = PyData.canLayAll0 ds from rfl, a, show (PyData.list ds).depth = PyData.depthAll ds + 1 from rfl]
  have : PyData.depthAll ds + 1 ≤ 64 := by omega
  simp [this]
theorem okT {ds : List D} (h : ∀ d ∈ ds, okD d = true ∧ d.depth ≤ 63) : okD (.tuple ds) = true := by
  obtain ⟨a, b, c⟩ := okAll ds h
  unfold okD SeqAt.shaped
  rw [show (PyData.tuple ds).hasDict = PyData.hasDictAll ds from rfl, c, show (PyData.tuple ds).canLay0 = PyData.canLayAll0 ds from rfl, a, show (PyData.tuple ds).depth = PyData.depthAll ds + 1 from rfl]
  have : PyData.depthAll ds + 1 ≤ 64 := by omega
  simp [this]
theorem ok_int (i : Int) : okD (.int i) = true ∧ (PyData.int i).depth ≤ 63 := ⟨rfl, Nat.zero_le _⟩
theorem ok_nil : okD (.list []) = true := okL fun d m => nomatch m
theorem nin_tup {a : D} {ds : List D} (h : okD a = true) (h2 : okD (.tuple ds) = true) : ninD a (.tuple ds) = some (.bool (!ds.any fun z => PyData.eqv z a)) := by
  cases a <;> simp [ninD, h, h2]
theorem in_tup {a : D} {ds : List D} (h : okD a = true) (h2 : okD (.tuple ds) = true) : inD a (.tuple ds) = some (.bool (ds.any fun z => PyData.eqv z a)) := by
  cases a <;> simp [inD, h, h2]
theorem eq_ok {a b : D} (h : okD a = true) (h2 : okD b = true) : eqD a b = some (.bool (PyData.eqv a b)) := by
  simp [eqD, h, h2]
theorem ne_ok {a b : D} (h : okD a = true) (h2 : okD b = true) : neD a b = some (.bool (!PyData.eqv a b)) := by
  simp [neD, h, h2]
theorem add_tup {a b : List D} (h : a.length + b.length ≤ sizeLine) : addD (.tuple a) (.tuple b) = some (.tuple (a ++ b)) := by
  show (if a.length + b.length ≤ sizeLine then some (PyData.tuple (a ++ b)) else none) = _
  rw [if_pos h]
theorem add_lst {a b : List D} (h : a.length + b.length ≤ sizeLine) : addD (.list a) (.list b) = some (.list (a ++ b)) := by
  show (if a.length + b.length ≤ sizeLine then some (PyData.list (a ++ b)) else none) = _
  rw [if_pos h]
theorem ev_call {n : Nat} {g : List D → Option D} {f : Rho → Option (List D)} {ρ : Rho} {ds : List D} {d : D} (hf : f ρ = some ds) (hl : ds.length = n) (hg : g ds = some d) : eCall (gN n g) f ρ = some d := by
  unfold eCall gN
  rw [hf]
  show (if ds.length = n then g ds else none) = _
  rw [if_pos hl, hg]
theorem ev_and {f g : EF} {ρ : Rho} {b : Bool} {d : D} (hf : f ρ = some (.bool b)) (hg : b = true → g ρ = some d) (h0 : b = false → d = .bool false) : eAnd f g ρ = some d := by
  unfold eAnd
  rw [hf]
  cases b with
  | true => exact hg rfl
  | false => rw [h0 rfl]; rfl
theorem ev_oOr {f g : Rho → Option Bool} {ρ : Rho} {b : Bool} (hf : f ρ = some b) : oOr f g ρ = if b = true then some true else g ρ := by
  unfold oOr
  rw [hf]
  rfl
theorem ev_oAnd {f g : Rho → Option Bool} {ρ : Rho} {b : Bool} (hf : f ρ = some b) : oAnd f g ρ = if b = true then g ρ else some false := by
  unfold oAnd
  rw [hf]
  rfl
theorem ev_not {f : Rho → Option Bool} {ρ : Rho} {b : Bool} (hf : f ρ = some b) : oNot f ρ = some (!b) := by
  unfold oNot
  rw [hf]
  rfl
theorem ev_oB {f : EF} {ρ : Rho} {b : Bool} (hf : f ρ = some (.bool b)) : oB f ρ = some b := by
  unfold oB
  rw [hf]
  rfl
theorem ev_lcE {μ : Bool} {vs : List Nat} {it : Rho → Option (List D)} {p : Pat} {c : Rho → Option Bool} {f : EF} {ρ : Rho} {items res : List D} (hit : it ρ = some items) (hl : lcGo p c f (wipeR (shutR μ ρ) vs) items = some res) : eLc μ vs it p c f ρ = some (.list res) := by
  unfold eLc
  rw [hit]
  show (lcGo p c f (wipeR (shutR μ ρ) vs) items).map PyData.list = _
  rw [hl]
  rfl
theorem ev_all {μ : Bool} {vs : List Nat} {it : Rho → Option (List D)} {p : Pat} {c : Rho → Option Bool} {f : EF} {ρ : Rho} {items : List D} {α : Type} {xs : List α} {t : α → Bool} (hit : it ρ = some items) (hl : lcGo p c f (wipeR (shutR μ ρ) vs) items = some (xs.map fun x => .bool (t x))) : eCall allD (aCons (eLc μ vs it p c f) aNil) ρ = some (.bool (xs.all t)) := by
  unfold eCall aCons
  rw [ev_lcE hit hl]
  show (boolsD _).map _ = _
  rw [bools_map]
  show some (PyData.bool _) = _
  rw [List.all_map]
  rfl
theorem ev_any {μ : Bool} {vs : List Nat} {it : Rho → Option (List D)} {p : Pat} {c : Rho → Option Bool} {f : EF} {ρ : Rho} {items : List D} {α : Type} {xs : List α} {t : α → Bool} (hit : it ρ = some items) (hl : lcGo p c f (wipeR (shutR μ ρ) vs) items = some (xs.map fun x => .bool (t x))) : eCall anyD (aCons (eLc μ vs it p c f) aNil) ρ = some (.bool (xs.any t)) := by
  unfold eCall aCons
  rw [ev_lcE hit hl]
  show (boolsD _).map _ = _
  rw [bools_map]
  show some (PyData.bool _) = _
  rw [List.any_map]
  rfl
end Dl
namespace Dl
open PySem PySem.Spec PyProof.Rows L2 Rt
theorem ev_e2 {g : D → D → Option D} {f1 f2 : EF} {ρ : Rho} {a b d : D} (h1 : f1 ρ = some a) (h2 : f2 ρ = some b) (hg : g a b = some d) : e2 g f1 f2 ρ = some d := by
  unfold e2
  rw [h1]
  show (f2 ρ).bind _ = _
  rw [h2]
  exact hg
theorem ev_itG {g : List D → Option (List D)} {f : Rho → Option (List D)} {ρ : Rho} {ds r : List D} (hf : f ρ = some ds) (hg : g ds = some r) : itG g f ρ = some r := by
  unfold itG
  rw [hf]
  exact hg
theorem ran2_ok {i j : Int} (h1 : -(2 ^ 62) ≤ i) (h2 : i < 2 ^ 62) (h3 : -(2 ^ 62) ≤ j) (h4 : j < 2 ^ 62) (h5 : j - i < 2 ^ 20) : ran2D [.int i, .int j] = some (rgD i (j - i).toNat) := if_pos ⟨h1, h2, h3, h4, h5⟩
theorem ran1_ok {j : Int} (h3 : -(2 ^ 62) ≤ j) (h5 : j < 2 ^ 20) : ran1D [.int j] = some (rgD 0 j.toNat) := if_pos ⟨h3, h5⟩
theorem ev_forC {p : Pat} {body : Rho → Option Out} {x : D} {xs : List D} {ρ ρ1 ρ2 : Rho} (e1 : bindP p x ρ = some ρ1) (e2 : body ρ1 = some (.nx ρ2)) : forGo p body (x :: xs) ρ = forGo p body xs ρ2 := by
  show (bindP p x ρ).bind _ = _
  rw [e1]
  show (body ρ1).bind _ = _
  rw [e2]
  rfl
theorem ev_forR {p : Pat} {body : Rho → Option Out} {x : D} {xs : List D} {ρ ρ1 : Rho} {d : D} (e1 : bindP p x ρ = some ρ1) (e2 : body ρ1 = some (.rt d)) : forGo p body (x :: xs) ρ = some (.rt d) := by
  show (bindP p x ρ).bind _ = _
  rw [e1]
  show (body ρ1).bind _ = _
  rw [e2]
  rfl
theorem ev_forS {it : Rho → Option (List D)} {p : Pat} {body : Rho → Option Out} {ρ : Rho} {items : List D} {o : Option Out} (hit : it ρ = some items) (h : forGo p body items ρ = o) : sFor it p body ρ = o := by
  unfold sFor
  rw [hit]
  exact h
end Dl
namespace Dl
open PySem PySem.Spec PyProof.Rows L2 Rt
/-! ### data that is neither deep nor long -/
def Bd (m : Nat) : Nat → D → Prop
  | 0, _ => False
  | n + 1, .tuple ds => ds.length ≤ 70 + m ∧ ∀ d ∈ ds, Bd m n d
  | n + 1, .list ds => ds.length ≤ 70 + m ∧ ∀ d ∈ ds, Bd m n d
  | _ + 1, .dict kvs => kvs = []
  | _ + 1, .int i => i.natAbs ≤ 10 ^ 29 + 100 * m
  | _ + 1, .str z => PyData.strOk z = true ∧ z.length ≤ 20 + 20 * m
  | _ + 1, .none => True
  | _ + 1, .bool _ => True
theorem Bd.up {m m' : Nat} (hm : m ≤ m') : ∀ {n n' : Nat} {d : D}, Bd m n d → n ≤ n' → Bd m' n' d
  | 0, _, _, h, _ => h.elim
  | n + 1, 0, _, _, l => absurd l (by omega)
  | n + 1, n' + 1, .tuple ds, h, l => ⟨Nat.le_trans h.1 (by omega), fun d hd => Bd.up hm (h.2 d hd) (by omega)⟩
  | n + 1, n' + 1, .list ds, h, l => ⟨Nat.le_trans h.1 (by omega), fun d hd => Bd.up hm (h.2 d hd) (by omega)⟩
  | n + 1, n' + 1, .dict kvs, h, l => h
  | n + 1, n' + 1, .int i, h, l => Nat.le_trans (show i.natAbs ≤ 10 ^ 29 + 100 * m from h) (by omega)
  | n + 1, n' + 1, .str z, h, l => ⟨h.1, Nat.le_trans h.2 (by omega)⟩
  | n + 1, n' + 1, .none, h, l => trivial
  | n + 1, n' + 1, .bool _, h, l => trivial
theorem Bd.gq {m : Nat} (hm : m ≤ 100) : ∀ {n : Nat} {d : D}, Bd m n d → Dl.gq d = true
  | 0, _, h => h.elim
  | n + 1, .tuple ds, h => Bool.and_eq_true_iff.mpr ⟨decide_eq_true (Nat.le_trans h.1 (by omega)), gqAll.of fun d hd => Bd.gq hm (h.2 d hd)⟩
  | n + 1, .list ds, h => rfl
  | n + 1, .dict kvs, h => rfl
  | n + 1, .int i, h => rfl
  | n + 1, .str z, h => h.1
  | n + 1, .none, h => rfl
  | n + 1, .bool _, h => rfl
theorem all_show : ∀ {ds : List D}, (∀ d ∈ ds, d.showable = true) → PyData.showableAll ds = true
  | [], _ => rfl
  | d :: r, h => by
    show (d.showable && PyData.showableAll r) = true
    rw [h d (by simp), all_show fun x hx => h x (by simp [hx])]
    rfl
theorem all_depth {k : Nat} : ∀ {ds : List D}, (∀ d ∈ ds, d.depth ≤ k) → PyData.depthAll ds ≤ k
  | [], _ => Nat.zero_le _
  | d :: r, h => Nat.max_le.mpr ⟨h d (by simp), all_depth fun x hx => h x (by simp [hx])⟩
theorem all_leaves {B : Nat} : ∀ {ds : List D}, (∀ d ∈ ds, d.leavesShort B = true) → PyData.leavesShortAll B ds = true
  | [], _ => rfl
  | d :: r, h => by
    show (d.leavesShort B && PyData.leavesShortAll B r) = true
    rw [h d (by simp), all_leaves fun x hx => h x (by simp [hx])]
    rfl
theorem big30 {i : Int} {m : Nat} (hm : m ≤ 100) (h : i.natAbs ≤ 10 ^ 29 + 100 * m) : i.natAbs < 10 ^ 30 :=
  Nat.lt_of_le_of_lt h (Nat.lt_of_le_of_lt (Nat.add_le_add_left (Nat.mul_le_mul_left 100 hm) _) (by decide))
theorem log30 {i : Int} (h : i.natAbs < 10 ^ 30) : i.natAbs.log2 < 100 := by
  by_cases z : i.natAbs = 0
  · rw [z]; decide
  · exact (Nat.log2_lt z).mpr (Nat.lt_trans h (by decide))
theorem Bd.lim {m : Nat} (hm : m ≤ 100) : ∀ {n : Nat} {d : D}, Bd m n d → d.showable = true ∧ d.depth ≤ n ∧ d.leavesShort 40 = true
  | 0, _, h => h.elim
  | n + 1, .tuple ds, h => ⟨all_show fun d hd => (Bd.lim hm (h.2 d hd)).1, Nat.succ_le_succ (all_depth fun d hd => (Bd.lim hm (h.2 d hd)).2.1), all_leaves fun d hd => (Bd.lim hm (h.2 d hd)).2.2⟩
  | n + 1, .list ds, h => ⟨all_show fun d hd => (Bd.lim hm (h.2 d hd)).1, Nat.succ_le_succ (all_depth fun d hd => (Bd.lim hm (h.2 d hd)).2.1), all_leaves fun d hd => (Bd.lim hm (h.2 d hd)).2.2⟩
  | n + 1, .dict kvs, h => by
    cases (show kvs = [] from h)
    exact ⟨rfl, by show 0 + 1 ≤ n + 1; omega, rfl⟩
  | n + 1, .int i, h => by
    have h1 := big30 hm h
    refine ⟨decide_eq_true (Nat.lt_trans (log30 h1) (by decide)), Nat.zero_le _, decide_eq_true ?_⟩
    have := int_text_length_le10 (a := i) (k := 30) (by decide) h1
    show (Str.ofString (toString i)).length ≤ 40
    rw [PySem.ofString_length]
    omega
  | n + 1, .str z, h => ⟨rfl, Nat.zero_le _, by
    have o := h.1
    unfold PyData.strOk at o
    rw [Array.all_eq_true'] at o
    show (z.cps.toList.all fun c => decide (c < 16 ^ 8)) = true
    rw [List.all_eq_true]
    intro c hc
    have := of_decide_eq_true (o c (Array.mem_toList_iff.mp hc))
    exact decide_eq_true (Nat.lt_trans this (by decide))⟩
  | n + 1, .none, h => ⟨rfl, Nat.zero_le _, rfl⟩
  | n + 1, .bool _, h => ⟨rfl, Nat.zero_le _, rfl⟩
/-- it can be shown -/
theorem Bd.repr {m n : Nat} {d : D} (h : Bd m n d) (hm : m ≤ 100) (hn : n ≤ 60) (hw : d.weight ≤ 200000) : reprD [d] = some (.str d.shown) := by
  obtain ⟨a, b, c⟩ := h.lim hm
  have := PyData.shown_le 40 (by decide) d c
  refine if_pos ⟨a, by omega, Nat.le_trans this ?_⟩
  exact Nat.le_trans (show (40 + 2) * d.weight + 40 ≤ 8400040 by omega) (by decide)
/-! ### weights -/
theorem wAll_app : ∀ (a b : List D), PyData.weightAll (a ++ b) = PyData.weightAll a + PyData.weightAll b
  | [], b => (Nat.zero_add _).symm
  | x :: a, b => by
    show x.weight + 1 + PyData.weightAll (a ++ b) = x.weight + 1 + PyData.weightAll a + PyData.weightAll b
    rw [wAll_app a b]
    omega
theorem wAll_mem : ∀ {a : List D} {x : D}, x ∈ a → x.weight + 1 ≤ PyData.weightAll a
  | y :: a, x, h => by
    show x.weight + 1 ≤ y.weight + 1 + PyData.weightAll a
    rcases List.mem_cons.mp h with e | e
    · rw [e]; omega
    · have := wAll_mem e
      omega
theorem wAll_drop (a : List D) (n : Nat) : PyData.weightAll (a.drop n) ≤ PyData.weightAll a := by
  have := wAll_app (a.take n) (a.drop n)
  rw [List.take_append_drop] at this
  omega
theorem wAll_take (a : List D) (n : Nat) : PyData.weightAll (a.take n) ≤ PyData.weightAll a := by
  have := wAll_app (a.take n) (a.drop n)
  rw [List.take_append_drop] at this
  omega
theorem wAll_rev : ∀ a : List D, PyData.weightAll a.reverse = PyData.weightAll a
  | [] => rfl
  | x :: a => by
    rw [List.reverse_cons, wAll_app, wAll_rev a]
    show PyData.weightAll a + (x.weight + 1 + 0) = x.weight + 1 + PyData.weightAll a
    omega
theorem wAll_le {c : Nat} : ∀ {a : List D}, (∀ x ∈ a, x.weight ≤ c) → PyData.weightAll a ≤ a.length * (c + 1)
  | [], _ => Nat.zero_le _
  | x :: a, h => by
    have h1 := h x (by simp)
    have h2 := wAll_le (c := c) (a := a) fun y hy => h y (by simp [hy])
    show x.weight + 1 + PyData.weightAll a ≤ (a.length + 1) * (c + 1)
    rw [Nat.add_mul, Nat.one_mul]
    omega
theorem wAll_set {a : List D} {i : Nat} {y x : D} (hi : a[i]? = some x) : PyData.weightAll (a.set i y) + x.weight = PyData.weightAll a + y.weight := by
  have hl := (List.getElem?_eq_some_iff.mp hi).1
  have e1 : a.set i y = a.take i ++ y :: a.drop (i + 1) := by rw [List.set_eq_take_append_cons_drop, if_pos hl]
  have e2 : a = a.take i ++ x :: a.drop (i + 1) := by
    obtain ⟨_, e⟩ := List.getElem?_eq_some_iff.mp hi
    rw [← e]
    simp
  have w1 := wAll_app (a.take i) (y :: a.drop (i + 1))
  have w2 := wAll_app (a.take i) (x :: a.drop (i + 1))
  rw [← e1] at w1
  rw [← e2] at w2
  have w3 : PyData.weightAll (y :: a.drop (i + 1)) = y.weight + 1 + PyData.weightAll (a.drop (i + 1)) := rfl
  have w4 : PyData.weightAll (x :: a.drop (i + 1)) = x.weight + 1 + PyData.weightAll (a.drop (i + 1)) := rfl
  omega
theorem wInt {i : Int} (h : i.natAbs < 10 ^ 30) : (PyData.int i).weight ≤ 100 := by
  show (if i == 0 then 0 else i.natAbs.log2 + 1) ≤ 100
  have := log30 h
  split <;> omega
/-! ### odd things, and things bent -/
def OddP (d : D) : Prop := (∀ m, Bd m 2 d) ∧ d.weight ≤ 100
def SpP (x d : D) : Prop := (∀ m k, m ≤ 5 → Bd m k x → Bd (m + 1) (k + 2) d) ∧ d.weight ≤ 2 * x.weight + 200
theorem OddP.sp {x d : D} (h : OddP d) : SpP x d := ⟨fun m k _ _ => (h.1 (m + 1)).up (Nat.le_refl _) (by omega), by have := h.2; omega⟩
theorem cut_last {α : Type} (xs : List α) : cutD xs (some (-1)) none = xs.drop (xs.length - 1) := by
  unfold cutD
  rw [HT.sIx_none]
  have : HT.sIx xs.length 0 (some (-1)) = xs.length - 1 := by
    show (if (-1 : Int) < 0 then ((-1 : Int) + (xs.length : Int)).toNat else min (-1 : Int).toNat xs.length) = _
    rw [if_pos (by decide)]
    omega
  rw [this, List.take_of_length_le (by rw [List.length_drop]; omega)]
theorem sp_drop {xs : List D} : SpP (.tuple xs) (.tuple (xs.drop 1)) := ⟨fun m k _ h => by
  cases k with
  | zero => exact h.elim
  | succ k => exact ⟨by have := h.1; rw [List.length_drop]; omega, fun d hd => (h.2 d (List.mem_of_mem_drop hd)).up (by omega) (by omega)⟩, by
  show PyData.weightAll _ ≤ 2 * PyData.weightAll xs + 200
  have := wAll_drop xs 1
  omega⟩
theorem sp_more {xs : List D} : SpP (.tuple xs) (.tuple (xs ++ xs.drop (xs.length - 1))) := ⟨fun m k _ h => by
  cases k with
  | zero => exact h.elim
  | succ k => exact ⟨by have := h.1; rw [List.length_append, List.length_drop]; omega, fun d hd => by
      rcases List.mem_append.mp hd with hd | hd
      · exact (h.2 d hd).up (by omega) (by omega)
      · exact (h.2 d (List.mem_of_mem_drop hd)).up (by omega) (by omega)⟩, by
  show PyData.weightAll _ ≤ 2 * PyData.weightAll xs + 200
  rw [wAll_app]
  have := wAll_drop xs (xs.length - 1)
  omega⟩
theorem sp_rev {xs : List D} : SpP (.tuple xs) (.tuple xs.reverse) := ⟨fun m k _ h => by
  cases k with
  | zero => exact h.elim
  | succ k => exact ⟨by have := h.1; rw [List.length_reverse]; omega, fun d hd => (h.2 d (List.mem_reverse.mp hd)).up (by omega) (by omega)⟩, by
  show PyData.weightAll _ ≤ 2 * PyData.weightAll xs + 200
  rw [wAll_rev]
  omega⟩
theorem sp_list {xs : List D} : SpP (.tuple xs) (.list xs) := ⟨fun m k _ h => by
  cases k with
  | zero => exact h.elim
  | succ k => exact ⟨by have := h.1; omega, fun d hd => (h.2 d hd).up (by omega) (by omega)⟩, by
  show PyData.weightAll _ ≤ 2 * PyData.weightAll xs + 200
  omega⟩
theorem sp_set {xs : List D} {i : Nat} {x y : D} (hi : xs[i]? = some x) (h : SpP x y) : SpP (.tuple xs) (.tuple (xs.set i y)) := ⟨fun m k hm hb => by
  cases k with
  | zero => exact hb.elim
  | succ k => exact ⟨by have := hb.1; rw [List.length_set]; omega, fun d hd => by
      rcases List.mem_or_eq_of_mem_set hd with hd | rfl
      · exact (hb.2 d hd).up (by omega) (by omega)
      · exact h.1 m k hm (hb.2 x (List.mem_of_getElem? hi))⟩, by
  show PyData.weightAll _ ≤ 2 * PyData.weightAll xs + 200
  have h1 := wAll_set (y := y) hi
  have h2 := wAll_mem (List.mem_of_getElem? hi)
  have h3 := h.2
  omega⟩
theorem strOk_iff {z : Str} : PyData.strOk z = true ↔ ∀ c ∈ z.cps.toList, c < 1114112 := by
  unfold PyData.strOk
  rw [Array.all_eq_true']
  constructor
  · intro h c hc
    exact of_decide_eq_true (h c (Array.mem_toList_iff.mp hc))
  · intro h c hc
    exact decide_eq_true (h c (Array.mem_toList_iff.mpr hc))
theorem s_app (x y : Str) : (x ++ y).cps.toList = x.cps.toList ++ y.cps.toList := by
  show (x.cps ++ y.cps).toList = _
  rw [Array.toList_append]
theorem s_len (x : Str) : x.length = x.cps.toList.length := by
  show x.cps.size = _
  rw [Array.length_toList]
theorem sp_str {x y : Str} (h : ∀ c ∈ y.cps.toList, c ∈ x.cps.toList ∨ c < 1114112) (hl : y.length ≤ x.length + 8) : SpP (.str x) (.str y) := ⟨fun m k _ hb => by
  cases k with
  | zero => exact hb.elim
  | succ k => exact ⟨strOk_iff.mpr fun c hc => (h c hc).elim (strOk_iff.mp hb.1 c) id, by have := hb.2; omega⟩, by
  show y.length ≤ 2 * x.length + 200
  omega⟩
theorem sp_int {x : D} {i j : Int} (hx : ∀ m k, m ≤ 5 → Bd m k x → Bd m k (.int i)) (h0 : i.natAbs < 10 ^ 30) (hj : j.natAbs ≤ i.natAbs + 20) : SpP x (.int j) := ⟨fun m k hm hb => by
  have := hx m k hm hb
  cases k with
  | zero => exact hb.elim
  | succ k => exact Nat.le_trans hj (Nat.le_trans (Nat.add_le_add_right (show i.natAbs ≤ 10 ^ 29 + 100 * m from this) 20) (by omega)), by
  have e : j.natAbs < 2 ^ 100 := Nat.lt_of_le_of_lt hj (Nat.lt_trans (Nat.add_lt_add_right h0 20) (by decide))
  have : (PyData.int j).weight ≤ 200 := by
    show (if j == 0 then 0 else j.natAbs.log2 + 1) ≤ 200
    split
    · omega
    · by_cases z : j.natAbs = 0
      · rw [z]; decide
      · have := (Nat.log2_lt z).mpr e
        omega
  omega⟩
theorem sp_bool {x : D} {b : Bool} : SpP x (.bool b) := ⟨fun m k _ _ => trivial, Nat.zero_le _⟩
/-! ### readings -/
theorem wIfTail {c : WP Bool} {f r : WP Out} {ρ : Rho} {b : Nat} {Q : Out → Nat → Prop} (B : Nat → Prop) (hr : ∀ b', B b' → r.w ρ b' Q) (h : (∀ b', B b' → r.w ρ b' Q) → c.w ρ b fun k b1 => if k = true then (swSeq f r).w ρ b1 Q else r.w ρ b1 Q) : (swSeq (swIf c f swNil) r).w ρ b Q := by
  refine c.m (fun k b1 z => ?_) (h hr)
  cases k with
  | true => exact z
  | false => exact z
end Dl
namespace Dl
open PySem PySem.Spec PyProof.Rows L2 Rt
/-! ### a list of one's own that is only read from now on -/
theorem Mu.frz {M0 : Addr → Prop} {σ : L2.St} {ρ : Rho} {i : Nat} {d : D} (a : Addr) (m : Mu true M0 σ (ρ.set i (some (.dat d))) a) : Mu true M0 σ ρ a := by
  rcases m with m | ⟨_, j, ds, e1, e2⟩
  · exact .inl m
  · rcases set_get e1 with ⟨_, z⟩ | ⟨_, z⟩
    · cases z
    · exact .inr ⟨rfl, j, ds, z, e2⟩
theorem Rn.frz {g : Pl} {M0 : Addr → Prop} {H0 H : Hp} {σ : L2.St} {ρ : Rho} {b : Nat} {i : Nat} {ds : List D} (R : Rn g M0 H0 H σ ρ b) (ei : ρ[i]? = some (some (.own ds))) : Rn g M0 H0 H σ (ρ.set i (some (.dat (.list ds)))) b := by
  have sh : ∀ a, Mu true M0 σ (ρ.set i (some (.dat (.list ds)))) a → Mu true M0 σ ρ a ∨ H a = none := fun a m => .inl (Mu.frz a m)
  refine ⟨R.kp, R.dom0, R.dom, R.pl, R.iv, by rw [List.length_set]; exact R.len, fun j d' e => ?_, fun j ds' e => ?_, fun j w e => ?_, fun j e => ?_, fun j k a c p e1 e2 e3 e4 => ?_⟩
  · rcases set_get e with ⟨rfl, e9⟩ | ⟨n, e⟩
    · cases e9
      obtain ⟨p, vs, x, y, z, l, w⟩ := R.own i ds ei
      refine ⟨.ref p, x, .lst y (fun m => ?_) l (w.reM sh)⟩
      rcases m with m | ⟨_, j, ds', f1, f2⟩
      · exact R.dom0 p m z
      · rcases set_get f1 with ⟨_, q⟩ | ⟨n, q⟩
        · cases q
        · exact n (R.inj i j ds ds' p ei q x f2)
    · obtain ⟨w, x, y⟩ := R.dat j d' e
      exact ⟨w, x, y.reM sh⟩
  · rcases set_get e with ⟨_, z⟩ | ⟨_, z⟩
    · cases z
    · obtain ⟨p, vs, x, y, z, l, w⟩ := R.own j ds' z
      exact ⟨p, vs, x, y, z, l, w.reM sh⟩
  · rcases set_get e with ⟨_, z⟩ | ⟨_, z⟩
    · cases z
    · exact R.raw j w z
  · rcases set_get e with ⟨_, z⟩ | ⟨_, z⟩
    · cases z
    · exact R.pool j z
  · rcases set_get e1 with ⟨_, z⟩ | ⟨_, f1⟩
    · cases z
    rcases set_get e2 with ⟨_, z⟩ | ⟨_, f2⟩
    · cases z
    exact R.inj j k a c p f1 f2 e3 e4
def swFrz (i : Nat) (f : WP Out) : WP Out := ⟨fun ρ b Q => ∃ ds, ρ[i]? = some (some (.own ds)) ∧ f.w (ρ.set i (some (.dat (.list ds)))) b Q, fun h ⟨ds, e, z⟩ => ⟨ds, e, f.m h z⟩⟩
section
variable {X : Cx} {K : PySem.W.Frag}
theorem nS_frz {st : Stmt} {i : Nat} {f : WP Out} (h : PS X st (tSn f)) : PS X st (tSn (swFrz i f)) := h.wk fun Dn σ H q => by
  obtain ⟨g, M0, H0, ρ, b, R, ds, e, q⟩ := q
  exact ⟨g, M0, H0, _, b, R.frz e, f.m (fun o b' p => PostN.from ⟨.refl, fun a m => .inl (Mu.frz a m)⟩ p) q⟩
/-- a loop each of whose turns costs so much -/
theorem forN_cost {p : Pat} {body : WP Out} {Q : Out → Nat → Prop} (N c : Nat) (I : Nat → Rho → Prop) : ∀ (items : List D) (k : Nat) (ρ : Rho) (b : Nat), k + items.length ≤ N → I k ρ → items.length * c ≤ b → (∀ x ∈ items, ∀ k ρ b, k < N → I k ρ → c ≤ b → ∃ ρ1, bindP p x ρ = some ρ1 ∧ ∀ Q' : Out → Nat → Prop, (∀ ρ2 b2, I (k + 1) ρ2 → b ≤ b2 + c → Q' (.nx ρ2) b2) → body.w ρ1 b Q') → (∀ ρ' b', I (k + items.length) ρ' → b ≤ b' + items.length * c → Q (.nx ρ') b') → forN p body items ρ b Q
  | [], k, ρ, b, _, i, _, _, q => q ρ b i (by simp)
  | x :: xs, k, ρ, b, hN, i, hb, hs, q => by
    have e : (x :: xs).length * c = xs.length * c + c := by rw [List.length_cons, Nat.add_mul, Nat.one_mul]
    rw [e] at hb q
    rw [List.length_cons] at hN
    obtain ⟨ρ1, e1, hw⟩ := hs x (by simp) k ρ b (by omega) i (by omega)
    refine ⟨ρ1, e1, hw _ fun ρ2 b2 i2 h2 => forN_cost N c I xs (k + 1) ρ2 b2 (by omega) i2 (by omega) (fun y hy => hs y (by simp [hy])) fun ρ' b' i' h' => q ρ' b' ?_ (by omega)⟩
    rw [List.length_cons, show k + (xs.length + 1) = k + 1 + xs.length by omega]
    exact i'
/-- texts told apart -/
def neS : D → D → Option D
  | .str a, .str b => some (.bool (!(a == b)))
  | _, _ => none
theorem o_neS (hu : X.A.units + 64 < cLine) : OpR X (compareOp .NotEq) (rD neS) := by
  intro pn s σ H x y v u Q I rx ry h
  obtain ⟨M, a, b, d, dm, ra, rb, e, q⟩ := h
  cases ra <;> (try (cases rb <;> cases e; done))
  cases rb <;> (try (cases e; done))
  cases e
  obtain ⟨t, rfl⟩ := rx
  obtain ⟨t', rfl⟩ := ry
  exact SeqAt.RcNeAt.str_str _ _ _ _ _ _ _ _ ⟨.bl _, H, I, rfl, q _ _ (Same.refl _) (.bl _)⟩
end
/-! ### the law itself, where the table of modules is known to stand -/
theorem lawG2 {P : Program} {w : World} {K : PySem.W.Frag} {mg mb : Str → Option Value} {k : Nat} {fa a : Addr} {fd : FuncData} {x : Str} {sp : Sp} {s0 : Shared} {us : List Value} {ns : List Int}
    (inK : K.In s0.heap) (gl : s0.heap.Ns mainGlobals mg) (bl : s0.heap.Ns builtinsNs mb) (bb : ∀ x : Str, x ≠ "__name__" → mb x = bootBuiltins x) (nl : s0.heap.NoLimit) (sm : ∃ mm, s0.heap.Ns sysModules mm) (ng : s0.gens = #[])
    (sc : s0.heap.get? a = some { cls := .type "list", data := .seq us.toArray }) (hin : IntsAre us ns) (short : ns.length ≤ sizeLine) (room : Room k callerA)
    (F : ∀ base : Heap, K.In base → base.Ns mainGlobals mg → (∃ o, base.get? sysModules = some o) → FnG P w K mg base k fa fd [x] sp) (bd : ∀ (s : Shared) (u : Value), BindsTo s fd ⟨[u], []⟩ [(x, u)])
    (hsp : ∀ H : Hp, Only H → SqL K H a (ns.map V.int) → sp [.ref a] H (fun v _ => v = .bl true) E0) :
    codeAny (model P w) callerA (.call (.ref fa) ⟨[.ref a], []⟩) (fun r s2 => r = .ok (.ret (.bool true)) ∧ OldK s0.heap s2.heap ∧ s2.os = s0.os ∧ AllBare s2.gens) s0 := by
  have rel := vals_ints hin
  have main : ∀ H : Hp, Only H → SqL K H a (ns.map V.int) → HOk P w H s0.heap → (∀ b u, H b = some u → b = a ∧ K.lookup a = none) →
      codeAny (model P w) callerA (.call (.ref fa) ⟨[.ref a], []⟩) (fun r s2 => r = .ok (.ret (.bool true)) ∧ OldK s0.heap s2.heap ∧ s2.os = s0.os ∧ AllBare s2.gens) s0 := by
    intro H only seq hok just
    have free : ∀ {b : Addr}, (b = a → K.lookup a = none → False) → H b = none := fun {b} no => by
      cases z : H b with
      | none => rfl
      | some u => exact (no (just b u z).1 (just b u z).2).elim
    have spaces : ∀ {b : Addr} {m : Str → Option Value}, s0.heap.Ns b m → (hidT s0.heap H).Ns b m := fun {b m} h => by
      obtain ⟨o, es, ep, e, d, r⟩ := h
      refine ⟨o, es, ep, hidT_get e (free fun z _ => ?_), d, r⟩
      subst z
      rw [sc] at e
      cases e
      cases d
    have inB : K.In (hidT s0.heap H) := fun b o e => hidT_get (inK b o e) (free fun z n => by
      subst z
      rw [n] at e
      cases e)
    have md : Mod K mg (hidT s0.heap H) := by
      obtain ⟨mc, n1, n2⟩ := nl
      exact ⟨inB, spaces gl, ⟨mb, spaces bl, bb⟩, ⟨mc, spaces n1, n2⟩⟩
    have hsm : ∃ o, (hidT s0.heap H).get? sysModules = some o := by
      obtain ⟨mm, h⟩ := sm
      obtain ⟨o, _, _, e, _⟩ := spaces h
      exact ⟨o, e⟩
    have en : Env0 P w K mg (hidT s0.heap H) callerA [] s0 H := ⟨rfl, md, fun b o e => of_hidT e, Nat.le_of_eq (hidT_size _ _), trivial, (fun b z => nomatch (show b ∈ ([] : List Addr) from z)), hok, .of_eq ng⟩
    refine codeAny_mono ((F _ inB (spaces gl) hsm).goes callerA [] s0 H ⟨[.ref a], []⟩ [.ref a] [.ref a] _ _ room rfl en (bd s0 (.ref a)) (.cons rfl .nil) (hsp H only seq)) fun r s2 h => ?_
    match r, h with
    | .error e, h => exact (h : False).elim
    | .ok .next, h => exact (h : False).elim
    | .ok .brk, h => exact (h : False).elim
    | .ok .cont, h => exact (h : False).elim
    | .ok (.ret u), h =>
      obtain ⟨v, H2, os, bare, un, hok2, rv, rfl⟩ := h
      obtain rfl : u = Value.bool true := rv
      refine ⟨rfl, OldK.of_keep fun b o e => ?_, os, bare⟩
      rcases only b with z | ⟨ob, xs, z⟩
      · exact un.keep b o e z (fun m => nomatch (show b ∈ ([] : List Addr) from m)) (fun m => nomatch m)
      · have e1 := (hok b _ z).1
        have e2 := (hok2 b _ (un.frzs b ob _ z)).1
        rw [e] at e1
        cases e1
        exact e2
  cases own : K.lookup a with
  | some o =>
    have e := inK a o own
    rw [sc] at e
    cases e
    exact main (fun _ => none) (fun _ => .inl rfl) (.inr ⟨_, us.toArray, _, own, rfl, rfl, rfl, by rw [List.size_toArray, hin.length]; exact short, by simpa using rel⟩) (fun b u z => nomatch z) (fun b u z => nomatch z)
  | none =>
    refine main (fun b => if b = a then some (.frz { cls := .type "list", data := .seq us.toArray } (.lst (ns.map V.int))) else none) (fun b => ?_) (.inl (.inr ⟨{ cls := .type "list", data := .seq us.toArray }, if_pos rfl⟩)) (fun b u z => ?_) (fun b u z => ?_)
    · by_cases e : b = a
      · exact .inr ⟨_, _, if_pos e⟩
      · exact .inl (if_neg e)
    · by_cases e : b = a
      · have z2 := (if_pos e).symm.trans z
        cases z2
        subst e
        exact ⟨sc, by rw [List.length_map]; exact short, us, _, rel, sc⟩
      · exact nomatch ((if_neg e).symm.trans z)
    · by_cases e : b = a
      · exact ⟨e, own⟩
      · exact nomatch ((if_neg e).symm.trans z)
theorem walk_G2 {l : PySem.W.OpenLaw} {n k : Nat} {q : Program} {loose : List Str} {XP : (Str → Option Value) → Heap → Prop} {YP : World → Heap → Prop} {d : DefRec} {K : Params → PySem.W.Frag} {sp : World → Sp} {x : Str}
    (hi : importsNone q = true) (most : l.most = some n) (n2 : n ≤ sizeLine) (nd : d.params.defaults = []) (room : Room k callerA) (hY : ∀ (w : World) (h : Heap), YP w h → (K w.params).In h)
    (F : ∀ (w : World) (mg : Str → Option Value) (fa : Addr) (h : Heap), (K w.params).In h → h.Ns mainGlobals mg → mg d.name = some (.ref fa) →
      ∃ fd : FuncData, (∀ (s : Shared) (u : Value), BindsTo s fd ⟨[u], []⟩ [(x, u)]) ∧ ∀ base : Heap, (K w.params).In base → base.Ns mainGlobals mg → (∃ o, base.get? sysModules = some o) → FnG l.prog w (K w.params) mg base k fa fd [x] (sp w))
    (hsp : ∀ (w : World) (H : Hp) (a : Addr) (ns : List Int), ns.length ≤ n → Only H → SqL (K w.params) H a (ns.map V.int) → sp w [.ref a] H (fun v _ => v = .bl true) E0) :
    PySem.W.WalkO q loose XP YP l.row.toRowW d [] (fun f vs => PySem.call f vs) := by
  refine Att.attach_call most nd fun w sA sB mg mb fa o pm cd doc a us ns G Y ho hd hcd hmg hobj hints hlen hg => ?_
  obtain ⟨fd, hb, hF⟩ := F w mg fa _ (hY w _ Y) G.T.g hmg
  obtain ⟨mm, h1, _⟩ := (G.T.seer hi).mods
  exact lawG2 (hY w _ Y) G.T.g G.T.b G.T.builtins G.T.nolimit ⟨mm, h1⟩ hg hobj hints (Nat.le_trans hlen n2) room hF hb fun H only seq => hsp w H a ns hlen only seq
end Dl
namespace Dl
open PySem PySem.Spec PyProof.Rows L2 Rt
/-! ### comprehensions of two fors -/
def lc2Go (vs1 : List Nat) (p p1 : Pat) (it1 : Rho → Option (List D)) (f : EF) (ρ : Rho) : List D → Option (List D)
  | [] => some []
  | x :: xs => (bindP p x ρ).bind fun ρ1 => (it1 ρ1).bind fun its => (lcGo p1 oYes f (wipeR ρ1 vs1) its).bind fun r => (lc2Go vs1 p p1 it1 f ρ xs).map fun t => r ++ t
def eLc2 (μ : Bool) (vs vs1 : List Nat) (it : Rho → Option (List D)) (p p1 : Pat) (it1 : Rho → Option (List D)) (f : EF) : EF := fun ρ => (it ρ).bind fun items => (lc2Go vs1 p p1 it1 f (wipeR (shutR μ ρ) vs) items).bind fun r => if r.length ≤ 100000 then some (.list r) else none
theorem Rs.wipeN {M0 : Addr → Prop} {H0 H : Hp} {σ : L2.St} {ρ : Rho} (R : Rs M0 H0 H σ ρ) : ∀ vs : List Nat, Rs M0 H0 H (wipe σ vs) (wipeR ρ vs)
  | [] => R
  | v :: vs => (R.wipeN vs).clear v none
theorem Rs.reb {M0 : Addr → Prop} {H H' : Hp} {σ : L2.St} {ρ : Rho} (R : Rs M0 H H σ ρ) (k : KpM M0 H H') (dom : Dom M0 H') : Rs M0 H' H' σ ρ := by
  have no : ∀ (i : Nat) (ds : List D), ρ[i]? = some (some (.own ds)) → False := fun i ds e => by
    obtain ⟨p, vs, _, b, c, _⟩ := R.own i ds e
    rw [b] at c
    cases c
  exact ⟨Same.refl _, dom, R.len, fun i d e => by
    obtain ⟨v, a, b⟩ := R.dat i d e
    exact ⟨v, a, b.mono fun p o n e => k p o (fun m => n (.inl m)) e⟩, fun i ds e => (no i ds e).elim, R.raw, fun i j a b p e => (no i a e).elim⟩
theorem Rs.noM {M0 : Addr → Prop} {H : Hp} {σ : L2.St} {ρ : Rho} (R : Rs M0 H H σ ρ) (a : Addr) (m : Mu true M0 σ ρ a) : M0 a := by
  rcases m with m | ⟨_, i, ds, e, _⟩
  · exact m
  · obtain ⟨p, vs, _, b, c, _⟩ := R.own i ds e
    rw [b] at c
    cases c
theorem lc2Core {K : PySem.W.Frag} {μ μ1 μi pr pr1 : Bool} {M0 : Addr → Prop} {H0 H1 : Hp} {σ : L2.St} {ρ : Rho} {J : It} {items res : List D} {p p1 : Pat} {it1 : Rho → Option (List D)} {f : EF} {vs vs1 : List Nat} {D : Addr} {Qd : Hp → Prop}
    (R : Rs M0 H0 H1 σ ρ) (dw : ∀ M', (∀ a, M' a → Mu μ M0 σ ρ a ∨ H1 a = none) → DW pr M' H1 J items) (hD : H1 D = none) (hp : p.fits pr = true) (hs : ∀ j, j ∈ slP p → j ∈ vs) (hp1 : p1.fits pr1 = true) (hs1 : ∀ j, j ∈ slP p1 → j ∈ vs1) (e : lc2Go vs1 p p1 it1 f (wipeR (shutR μ ρ) vs) items = some res) (len : res.length ≤ 100000)
    (q : ∀ H acc, Same H1 H → H D = some (.lst acc) → acc.length ≤ sizeLine → RpAll (Mi μ M0 σ ρ D) H acc res → Qd H) :
    ∃ W : Nat → Nat → Hp → Prop, (∃ m, W 0 m (upd H1 D (.lst []))) ∧ ∀ i m H, W i m H →
      (J.stop i H ∧ Qd H) ∨ (J.go i H ∧ ∃ Nx : Hp → Prop, (∀ H', Nx H' → ∃ m', m' < m ∧ W (i + 1) m' H') ∧ ∀ x H', J.yld i H x H' → gP K p x (wipe σ vs) H' fun σ2 H2 => wipe σ2 vs = wipe σ vs ∧ tT oYes σ2 H2 fun b H3 =>
        if b = true then iD μ1 pr1 it1 σ2 H3 fun J1 H4 => ∃ W1 : Nat → Nat → Hp → Prop, (∃ m, W1 0 m H4) ∧ ∀ j k H, W1 j k H →
          (J1.stop j H ∧ Nx H) ∨ (J1.go j H ∧ ∃ Nx1 : Hp → Prop, (∀ H', Nx1 H' → ∃ k', k' < k ∧ W1 (j + 1) k' H') ∧ ∀ x H', J1.yld j H x H' → gP K p1 x (wipe σ2 vs1) H' fun σ3 H5 => wipe σ3 vs1 = wipe σ2 vs1 ∧ tT oYes σ3 H5 fun b H6 =>
            if b = true then tD μi f σ3 H6 fun y H7 => ∃ acc, H7 D = some (.lst acc) ∧ acc.length < sizeLine ∧ Nx1 (upd H7 D (.lst (acc ++ [y]))) else Nx1 H6)
        else Nx H3) := by
  have dw := dw (Mi μ M0 σ ρ D) fun a m => m.elim .inl fun z => .inr (by rw [z]; exact hD)
  obtain ⟨G, Y, W, hG, hY⟩ := dw.ex
  have szl : 100000 ≤ sizeLine := by decide
  let Pv : Nat → Hp → Prop := fun i H => Same H1 H ∧ ∃ acc done rest, H D = some (.lst acc) ∧ RpAll (Mi μ M0 σ ρ D) H acc done ∧ lc2Go vs1 p p1 it1 f (wipeR (shutR μ ρ) vs) (items.drop i) = some rest ∧ done ++ rest = res
  refine ⟨fun i m H => m = items.length - i ∧ i ≤ items.length ∧ Pv i H, ⟨items.length, by simp, Nat.zero_le _, smN hD, [], [], res, upd_same, .nil, e, rfl⟩, ?_⟩
  rintro i m H ⟨rfl, hi, sm, acc, done, rest, eD, ra, er, et⟩
  by_cases hlt : i < items.length
  · refine .inr ⟨W.goes i H hlt (hG H (.of sm)), Pv (i + 1), fun H' p' => ⟨items.length - (i + 1), by omega, rfl, hlt, p'⟩, fun x H' y => ?_⟩
    obtain ⟨d, ed, s2, rv⟩ := hY i x H H' (.of sm) (W.yields i H x H' hlt (hG H (.of sm)) y)
    rw [drop_at ed] at er
    unfold lc2Go at er
    obtain ⟨ρ1, e1, er⟩ := some_bind er
    obtain ⟨its, ei, er⟩ := some_bind er
    obtain ⟨r1, er1, er⟩ := some_bind er
    obtain ⟨r2, er2, er⟩ := some_map er
    have er : r1 ++ r2 = rest := er
    have Rin := R.inner (μ := μ) hD (sm.trans s2) (s2 _ _ eD) vs
    refine bindP.ok (pr := pr) Rin ?_ hp e1 fun σ2 R2 B2 => ⟨wipe_eq B2.oth B2.len hs, _, _, ρ1, true, R2, rfl, fun H3 s3 => ?_⟩
    · rcases rv with rv | ⟨zp, a, xs, ds, z1, z2, z3, z4⟩
      · exact .inl (rv.reM fun a m => .inl (Mi.noOwn a m))
      · exact .inr ⟨zp, a, xs, ds, z1, z2, z3, z4.reM fun a m => .inl (Mi.noOwn a m)⟩
    refine ⟨_, _, ρ1, its, R2.mono s3, ei, fun J1 H4 s4 dw1 => ?_⟩
    have dw1 := dw1 (Mi μ M0 σ ρ D) fun a m => .inl (.inl m)
    obtain ⟨G1, Y1, W1, hG1, hY1⟩ := dw1.ex
    have s24 : Same H H4 := (s2.trans s3).trans s4
    have s14 : Same H1 H4 := sm.trans s24
    let P1 : Nat → Hp → Prop := fun j H5 => KpM (Mi μ M0 σ ρ D) H4 H5 ∧ Same H1 H5 ∧ ∃ acc' done' rest', H5 D = some (.lst acc') ∧ RpAll (Mi μ M0 σ ρ D) H5 acc' (done ++ done') ∧ lcGo p1 oYes f (wipeR ρ1 vs1) (its.drop j) = some rest' ∧ done' ++ rest' = r1
    refine ⟨fun j k H5 => k = its.length - j ∧ j ≤ its.length ∧ P1 j H5, ⟨its.length, by simp, Nat.zero_le _, .refl, s14, acc, [], r1, s24 _ _ eD, by rw [List.append_nil]; exact ra.mono (.of s24), er1, rfl⟩, ?_⟩
    rintro j k H5 ⟨rfl, hj, k5, s5, acc', done', rest', eD5, ra5, er5, et5⟩
    by_cases hlj : j < its.length
    · refine .inr ⟨W1.goes j H5 hlj (hG1 H5 k5), P1 (j + 1), fun H' p' => ⟨its.length - (j + 1), by omega, rfl, hlj, p'⟩, fun x1 H6 y1 => ?_⟩
      obtain ⟨d1, ed1, s6, rv1⟩ := hY1 j x1 H5 H6 k5 (W1.yields j H5 x1 H6 hlj (hG1 H5 k5) y1)
      rw [drop_at ed1] at er5
      unfold lcGo at er5
      obtain ⟨ρ2, e2, er5⟩ := some_bind er5
      obtain ⟨bb, eb, er5⟩ := some_bind er5
      cases eb
      obtain ⟨dv, edv, er5⟩ := some_bind (show (f ρ2).bind _ = some rest' from er5)
      obtain ⟨r3, er3, er5⟩ := some_map er5
      have er5 : dv :: r3 = rest' := er5
      have dom6 : Dom (Mi μ M0 σ ρ D) H6 := fun a m => by
        rcases m with m | rfl
        · exact ((R.mono (s5.trans s6)).domu μ) a m
        · rw [s6 _ _ eD5]; intro z; cases z
      have k36 : KpM (Mi μ M0 σ ρ D) H' H6 := fun a o n e => s6 a o (k5 a o n (s4 a o (s3 a o e)))
      have Rw := (R2.reb k36 dom6).wipeN vs1
      refine bindP.ok (pr := pr1) Rw ?_ hp1 e2 fun σ3 R3 B3 => ⟨wipe_eq B3.oth B3.len hs1, _, _, ρ2, true, R3, rfl, fun H7 s7 => ?_⟩
      · rcases rv1 with rv1 | ⟨zp, a, xs, ds, z1, z2, z3, z4⟩
        · exact .inl (rv1.reM fun a m => .inl (Rw.noM a m))
        · exact .inr ⟨zp, a, xs, ds, z1, z2, z3, z4.reM fun a m => .inl (Rw.noM a m)⟩
      refine ⟨_, _, ρ2, dv, R3.mono s7, edv, fun y H8 s8 r8 => ?_⟩
      have s58 : Same H5 H8 := (s6.trans s7).trans s8
      have eD8 := s58 _ _ eD5
      have kp : KpM (Mi μ M0 σ ρ D) H8 (upd H8 D (.lst (acc' ++ [y]))) := fun q o n e => by
        rw [upd_ne (fun z => n (.inr z))]
        exact e
      have r8 : Rp (Mi μ M0 σ ρ D) H8 y dv := r8.reM fun a m => .inl (.inl m)
      have hl : acc'.length < sizeLine := by
        rw [ra5.len]
        have : (done ++ done').length < res.length := by
          rw [← et, ← er, ← et5, ← er5]
          simp only [List.length_append, List.length_cons]
          omega
        omega
      refine ⟨acc', eD8, hl, fun a o n e => kp a o n (s58 a o (k5 a o n e)), fun a o e => ?_, acc' ++ [y], done' ++ [dv], r3, upd_same, ?_, er3, by rw [← et5, ← er5, List.append_assoc]; rfl⟩
      · rw [upd_ne (ne_of_none e hD)]
        exact s58 a o (s5 a o e)
      · rw [← List.append_assoc]
        exact ((ra5.mono (.of s58)).mono kp).app (.cons (r8.mono kp) .nil)
    · have ej : j = its.length := by omega
      subst ej
      rw [List.drop_length] at er5
      cases er5
      rw [List.append_nil] at et5
      subst et5
      exact .inl ⟨W1.stops H5 (hG1 H5 k5), s5, acc', done ++ done', r2, eD5, ra5, er2, by rw [List.append_assoc, er]; exact et⟩
  · have ei : i = items.length := by omega
    subst ei
    rw [List.drop_length] at er
    cases er
    rw [List.append_nil] at et
    subst et
    exact .inl ⟨W.stops H (hG H (.of sm)), q H acc sm eD (by rw [ra.len]; omega) ra⟩
section
variable {X : Cx} {K : PySem.W.Frag}
theorem dE_lc2 {e : Expr} {it it1 : Rho → Option (List D)} {p p1 : Pat} {f : EF} {vs vs1 : List Nat} {μ μ1 μi pr pr1 : Bool} (h : PE X e (tLc2 (iD μ pr it) (gP K p) (tT oYes) (iD μ1 pr1 it1) (gP K p1) (tT oYes) (tD μi f) vs vs1)) (hp : p.fits pr = true := by rfl) (hs : ∀ j, j ∈ slP p → j ∈ vs := by decide) (hp1 : p1.fits pr1 = true := by rfl) (hs1 : ∀ j, j ∈ slP p1 → j ∈ vs1 := by decide) : PE X e (tD μ (eLc2 μ vs vs1 it p p1 it1 f)) := h.wk fun σ H Q q => by
  obtain ⟨M0, H0, ρ, d, R, e, q⟩ := q
  obtain ⟨items, ei, e⟩ := some_bind e
  obtain ⟨res, er, e⟩ := some_bind e
  obtain ⟨l, rfl⟩ := iteS e
  exact ⟨M0, H0, ρ, items, R, ei, fun J H1 s1 dw D hD => lc2Core (R.mono s1) dw hD hp hs hp1 hs1 er l fun H2 acc s2 eD la ra => q _ _ (s1.trans s2) (.lst eD (((R.mono s1).domu μ).not hD) la (ra.reM fun a m => .inl (.inl m)))⟩
/-! ### a list of one's own, put otherwise at a place -/
def swPut (i : Nat) (f fi : WP D) : WP Out := ⟨fun ρ b Q => f.w ρ b fun d b1 => ∃ ds, ρ[i]? = some (some (.own ds)) ∧ fi.w ρ b1 fun x b2 => ∃ k j, x = .int k ∧ ixN ds.length k = some j ∧ Q (.nx (ρ.set i (some (.own (ds.set j d))))) b2, fun h z => f.m (fun d b1 ⟨ds, e, y⟩ => ⟨ds, e, fi.m (fun x b2 ⟨k, j, e1, e2, y⟩ => ⟨k, j, e1, e2, h _ _ y⟩) y⟩) z⟩
theorem nS_put {st : Stmt} {i : Nat} {f fi : WP D} (h : PS X st (tAsg (tn f) (gSub (tVar i) (tn fi) rSetLL))) : PS X st (tSn (swPut i f fi)) := h.wk fun Dn σ H q => by
  obtain ⟨g, M0, H0, ρ, b, R, q⟩ := q
  refine ⟨g, M0, H0, ρ, b, R, f.m (fun d b1 ⟨ds, z, q⟩ v H1 k1 i1 r1 => ?_) q⟩
  have R1 := R.up k1 i1
  obtain ⟨p, vs, a, c, h0, l, r⟩ := R1.own i ds z
  refine ⟨.ref p, a, g, M0, H0, ρ, b1, R1, fi.m (fun x b2 ⟨k, j, ex, ij, q⟩ y H2 k2 i2 r2 => ?_) q⟩
  subst ex
  cases r2
  have kk : KpM (Mu true M0 σ ρ) H1 H2 := fun p o n e => k2 p o (fun z => n (.inl (R.pl p z))) e
  have c2 := k2 _ _ (fun o => R.dom0 p (R.pl p o) h0) c
  refine ⟨p, vs, k, j, rfl, rfl, c2, by rw [r.len]; exact ij, fun H3 e3 => ?_⟩
  subst e3
  obtain ⟨R3, S3⟩ := (R1.up k2 i2).ownSet z a c2 (vs' := vs.set j v) (by rw [List.length_set]; exact l) (RpAll.set (r1.mono kk) j (r.mono kk))
  exact q _ _ R3 (((R.stp k1).trans (R1.stp k2)).trans S3)
/-- [x] * n, a new list -/
def mulL : D → D → Option D
  | .list ds, .int k => if 0 ≤ k ∧ k ≤ 1000 ∧ ds.length ≤ 1000 then some (.list (List.replicate k.toNat ds).flatten) else none
  | _, _ => none
theorem oE_rep {a b : Expr} {pos : Pos} {f1 f2 : EF} (ha : PE X a (tD true f1)) (hb : PE X b (tD true f2)) : PE X (.BinOp a .Mult b pos) (tN (e2 mulL f1 f2)) := (pe_op op_rep ha hb).wk fun σ H Q q => by
  obtain ⟨M0, H0, ρ, ds, R, e, q⟩ := q
  obtain ⟨d1, e1, ea⟩ := some_bind e
  obtain ⟨d2, e2, eb⟩ := some_bind ea
  clear e ea
  refine ⟨M0, H0, ρ, d1, R, e1, fun v1 H1 s1 r1 => ⟨M0, H0, ρ, d2, R.mono s1, e2, fun v2 H2 s2 r2 => ?_⟩⟩
  cases r1 <;> (try (cases r2 <;> cases eb; done))
  rename_i t n l r
  cases r2 <;> (try (cases eb; done))
  rename_i k
  obtain ⟨l2, e3⟩ := iteS eb
  cases e3
  have hl := r.len
  have hm : (List.length ‹List V›) * k.toNat ≤ sizeLine := by
    rw [hl]
    exact Nat.le_trans (Nat.mul_le_mul l2.2.2 (show k.toNat ≤ 1000 by omega)) (by decide)
  refine ⟨_, _, _, rfl, rfl, s2 _ _ t, by omega, by omega, hm, fun p hp => q p _ _ ?_ ((s1.trans s2).trans (smN hp)) upd_same (by rw [rep_len, Nat.mul_comm]; exact hm) ?_⟩
  · cases z : H p with
    | none => rfl
    | some o => rw [(s1.trans s2) _ _ z] at hp; cases hp
  · have k : ∀ a, Mi true M0 σ ρ p a → Mu true M0 σ ρ a ∨ H2 a = none := fun a m => by
      rcases m with m | rfl
      · exact .inl m
      · exact .inr hp
    exact (((r.mono (.of s2)).reM k).mono (.of (smN hp))).rep _
/-! ### tuples * 0, () * n -/
theorem tuple_mulE (l : Addr) (n : Nat) (dd : Option Addr) (sl : Array (Option Value)) (x : Int) (u : Tok) (c0 : (decide (x < -(2 ^ 63)) || decide (x ≥ 2 ^ 63)) = false) :
    Meets (Builtin.«tuple.__mul__» ⟨[.ref l, .int x u], []⟩) (fun _ R s => s.heap.get? l = some { cls := .type "tuple", dict := dd, data := .seq #[] n, slots := sl } ∧
      R (.ok (.ret (Value.ref l))) s) :=
  .of_wp fun prog w A R s h => by
    obtain ⟨hp, g, d, tk, os⟩ := s
    obtain ⟨hl, h⟩ := h
    have f1 := AutoSeq1.idx_int
    have c1 : ((#[] : Array Value).isEmpty || x == 1) = true := rfl
    wp_walk using wpAny_loadPart' hl
    repeat (first
      | (refine wpAny_ite_false (decide_eq_false (by rw [c0]; exact Bool.false_ne_true)) ?_; wp_walk using wpAny_loadPart' hl)
      | (refine wpAny_ite_true (decide_eq_true c1) ?_; wp_walk using wpAny_loadPart' hl))
    exact ⟨_, rfl, h⟩
theorem tuple_mulZ (l : Addr) (items : Array Value) (n : Nat) (dd : Option Addr) (sl : Array (Option Value)) (u : Tok) (c1 : (items.isEmpty || (0 : Int) == 1) = false) :
    Meets (Builtin.«tuple.__mul__» ⟨[.ref l, .int 0 u], []⟩) (fun _ R s => s.heap.get? l = some { cls := .type "tuple", dict := dd, data := .seq items n, slots := sl } ∧
      R (.ok (.ret (Value.ref s.heap.objs.size))) { s with heap := s.heap.push { cls := Value.type "tuple", data := Data.seq #[] }, toks := s.toks }) :=
  .of_wp fun prog w A R s h => by
    obtain ⟨hp, g, d, tk, os⟩ := s
    obtain ⟨hl, h⟩ := h
    have f1 := AutoSeq1.idx_int
    have c0 : (decide ((0 : Int) < -(2 ^ 63)) || decide ((0 : Int) ≥ 2 ^ 63)) = false := by decide
    have c2 : (decide ((0 : Int) ≤ 0) || items.isEmpty) = true := rfl
    wp_walk using wpAny_loadPart' hl
    repeat (first
      | (refine wpAny_ite_false (decide_eq_false (by rw [c0]; exact Bool.false_ne_true)) ?_; wp_walk using wpAny_loadPart' hl)
      | (refine wpAny_ite_false (decide_eq_false (by rw [c1]; exact Bool.false_ne_true)) ?_; wp_walk using wpAny_loadPart' hl)
      | (refine wpAny_ite_true (decide_eq_true c2) ?_; wp_walk using wpAny_loadPart' hl))
    exact ⟨_, rfl, h⟩
end
end Dl
namespace Dl
open PySem PySem.Spec PyProof.Rows L2 Rt
section
variable {X : Cx} {K : PySem.W.Frag}
def mulY : D → D → Option D
  | .tuple ds, .int k => if ds.isEmpty = true ∧ 0 ≤ k ∧ k ≤ 1000 then some (.tuple []) else if k = 0 then some (.tuple []) else mulX (.tuple ds) (.int k)
  | a, b => mulX a b
theorem o_mulY : OpR X (binaryOp .Mult) (rD mulY) := by
  intro pn s σ H x y v u Q I rx ry h
  obtain ⟨M, a, b, d, dm, ra, rb, e, q⟩ := h
  by_cases hb : ∃ ds k, a = .tuple ds ∧ b = .int k
  · obtain ⟨ds, k, rfl, rfl⟩ := hb
    have e : (if ds.isEmpty = true ∧ 0 ≤ k ∧ k ≤ 1000 then some (PyData.tuple []) else if k = 0 then some (PyData.tuple []) else mulX (.tuple ds) (.int k)) = some d := e
    by_cases h1 : ds.isEmpty = true ∧ 0 ≤ k ∧ k ≤ 1000
    · rw [if_pos h1] at e
      cases e
      have : ds = [] := List.isEmpty_iff.mp h1.1
      subst this
      cases ra with
      | tup t n l r =>
        cases r
        cases rb
        cases rx
        obtain ⟨tk, rfl⟩ := ry
        obtain ⟨its, r, ⟨⟨cls, dd, data, sl⟩, ho, hc, m, hd⟩, hs⟩ := I.tuple (t.sq (K := X.K))
        simp only at hc hd
        subst hc hd
        cases r
        refine wpAny_binaryOp_repeat_ref (T := "tuple") (U := "int") (by decide) ⟨_, ho, rfl⟩ (fun s' => typeIs_int s' k tk) noFill_tuple_mul F.fills_int_mul F.slot_int_rmul repeat_tuple F.slot_int_index.lookup
          (call_meets F.slot_int_rmul (typeIs_int s k tk) F.entry_int_rmul (F.args_int_rmul_2 _ _) (int_rmul_tuple k tk _ _ m dd sl)
            ⟨ho, rfl, ⟨_, ho, rfl⟩, call_meets F.slot_tuple_mul ⟨_, ho, rfl⟩ F.entry_tuple_mul (F.args_tuple_mul_2 _ _) (tuple_mulE _ m dd sl k tk (by simp; omega)) ⟨ho, ?_⟩⟩)
        exact ⟨.ref _, H, I, rfl, q _ _ (Same.refl _) (.tup t n l .nil)⟩
    · rw [if_neg h1] at e
      by_cases h2 : k = 0
      · subst h2
        rw [if_pos rfl] at e
        cases e
        have hne : ds ≠ [] := fun z => h1 ⟨by rw [z]; rfl, by decide, by decide⟩
        cases ra with
        | tup t n l r =>
          cases rb
          cases rx
          obtain ⟨tk, rfl⟩ := ry
          obtain ⟨its, r2, ⟨⟨cls, dd, data, sl⟩, ho, hc, m, hd⟩, hs⟩ := I.tuple (t.sq (K := X.K))
          simp only at hc hd
          subst hc hd
          have ie : (its.toArray.isEmpty || (0 : Int) == 1) = false := by
            cases its with
            | nil =>
              cases r2
              cases r
              exact (hne rfl).elim
            | cons a b => rfl
          refine wpAny_binaryOp_repeat_ref (T := "tuple") (U := "int") (by decide) ⟨_, ho, rfl⟩ (fun s' => typeIs_int s' 0 tk) noFill_tuple_mul F.fills_int_mul F.slot_int_rmul repeat_tuple F.slot_int_index.lookup
            (call_meets F.slot_int_rmul (typeIs_int s 0 tk) F.entry_int_rmul (F.args_int_rmul_2 _ _) (int_rmul_tuple 0 tk _ _ m dd sl)
              ⟨ho, rfl, ⟨_, ho, rfl⟩, call_meets F.slot_tuple_mul ⟨_, ho, rfl⟩ F.entry_tuple_mul (F.args_tuple_mul_2 _ _) (tuple_mulZ _ its.toArray m dd sl tk ie) ⟨ho, ?_⟩⟩)
          have fr := I.hok.fresh (Nat.le_refl s.heap.objs.size)
          have J := Inv.tupF I (us := []) (xs := []) .nil (Nat.zero_le _)
          exact ⟨.ref s.heap.objs.size, _, J, rfl, q _ _ (smN fr) (.tup ⟨_, upd_same, rfl⟩ (dm.not fr) (Nat.zero_le _) .nil)⟩
      · rw [if_neg h2] at e
        exact o_mulX pn s σ H _ _ v u Q I rx ry ⟨M, _, _, d, dm, ra, rb, e, q⟩
  · refine o_mulX pn s σ H _ _ v u Q I rx ry ⟨M, a, b, d, dm, ra, rb, ?_, q⟩
    unfold mulY at e
    split at e
    · exact (hb ⟨_, _, rfl, rfl⟩).elim
    · exact e
/-- str of a number -/
def strD : List D → Option D
  | [.int i] => if i.natAbs < 10 ^ 30 then some (.str (Str.ofString (toString i))) else none
  | _ => none
theorem c_strI : CallR X (.type "str") (rC strD) := by
  intro pn s σ H xs us Q I r h
  obtain ⟨M, ds, d, dm, ra, e, q⟩ := h
  match ds, ra, e with
  | [.int i], .cons rx .nil, e =>
    cases rx
    obtain ⟨l, rfl⟩ := iteS e
    refine call_str_int pn s σ H _ us Q I r ⟨i, rfl, Nat.lt_trans (log30 l) (by decide), q _ _ (Same.refl _) (.str _ ?_)⟩
    have := int_text_length_le10 (a := i) (k := 30) (by decide) l
    show (Str.ofString (toString i)).length ≤ sizeLine
    rw [PySem.ofString_length]
    exact Nat.le_trans this (by decide)
/-- sorted, the greatest first -/
def sortR (ns : List Int) : List Int := ns.mergeSort fun a b => decide (b ≤ a)
theorem sortR_perm (ns : List Int) : (sortR ns).Perm ns := List.mergeSort_perm ns _
theorem sortR_pw (ns : List Int) : (sortR ns).Pairwise (· ≥ ·) := by
  have := List.pairwise_mergeSort (le := fun a b : Int => decide (b ≤ a)) (fun a b c h1 h2 => by simp at *; omega) (fun a b => by simp; omega) ns
  exact this.imp fun h => by simpa using h
theorem pw_uniq : ∀ {a b : List Int}, a.Perm b → a.Pairwise (· ≥ ·) → b.Pairwise (· ≥ ·) → a = b
  | [], b, p, _, _ => (List.nil_perm.mp p).symm
  | x :: a, [], p, _, _ => absurd p.length_eq (by simp)
  | x :: a, y :: b, p, ha, hb => by
    have h1 := List.pairwise_cons.mp ha
    have h2 := List.pairwise_cons.mp hb
    have e : x = y := by
      have m1 : x ∈ y :: b := p.mem_iff.mp List.mem_cons_self
      have m2 : y ∈ x :: a := p.mem_iff.mpr List.mem_cons_self
      rcases List.mem_cons.mp m1 with e | m1
      · exact e
      · rcases List.mem_cons.mp m2 with e | m2
        · exact e.symm
        · have := h1.1 y m2
          have := h2.1 x m1
          omega
    subst e
    rw [pw_uniq ((List.perm_cons _).mp p) h1.2 h2.2]
def sorD : D → Option D
  | .list ds => (intsD ds).map fun ns => .list ((sortR ns).map .int)
  | _ => none
theorem ints_rp {M : Addr → Prop} {H : Hp} : ∀ ns : List Int, RpAll M H (ns.map V.int) (ns.map PyData.int)
  | [] => .nil
  | n :: ns => .cons (.int n) (ints_rp ns)
theorem dE_sorR {e : Expr} {p pos kpos cpos : Pos} {k : Nat} {f : EF} {μ : Bool} (h : PE X e (tD μ f)) (hg : Gl X "sorted") (hm : X.mg "sorted" = none) (he : starEach [e] X.env = (false, eval e X.env) :: starEach [] X.env := by rfl)
    (he2 : backTo pos (starEach [e] X.env) = (false, eval e X.env) :: backTo pos (starEach [] X.env) := by rfl) (hpl : (backTo pos (starEach [e] X.env)).any (·.1) = false := by rfl) :
    PE X (.Call (.Name "sorted" p) [e] [⟨some "reverse", .Constant (.bool true) k cpos, kpos⟩] pos) (tD μ (e1 sorD f)) := (pe_callBK cr_sortedRev hg hm (by decide +kernel) (pa_cons h pa_nil he) (pk_cons (pe_bl (b := true)) pk_nil) (he := he2) (hpl := hpl)).wk fun σ H Q q => by
  obtain ⟨M0, H0, ρ, d, R, e, q⟩ := q
  obtain ⟨d1, e1, eb⟩ := some_bind e
  clear e
  refine ⟨M0, H0, ρ, d1, R, e1, fun v H1 s1 r1 => ?_⟩
  cases r1 <;> (try (cases eb; done))
  rename_i t n l r
  obtain ⟨ns, en, rfl⟩ := some_map eb
  have hv := r.ints en
  subst hv
  refine ⟨_, ns, rfl, rfl, SqL.of t, fun ns' a pm od np => ?_⟩
  have : ns' = sortR ns := pw_uniq (pm.trans (sortR_perm ns).symm) od (sortR_pw ns)
  subst this
  exact q _ _ (s1.trans (smN np)) (.lst upd_same (((R.mono s1).domu μ).not np) (by rw [List.length_map, (sortR_perm ns).length_eq, ← List.length_map (f := V.int)]; exact l) (ints_rp _))
/-- a call of a def that shows something -/
theorem dE_clG {k n : Nat} {x : Str} {ps : List Str} {g : List D → Option D} {p pos : Pos} {e : Expr} {es : List Expr} {f : Rho → Option (List D)} {μ : Bool} (C : ClG X.prog X.w X.K X.mg X.base k x ps (spD n g)) (hr : Room k X.A) (free : X.A.guards = some []) (hg : Gl X x) (ha : PA X (e :: es) (tA μ f))
    (hdb : (x == ("__debug__" : Str)) = false := by decide) (he : starEach (e :: es) X.env = (false, eval e X.env) :: starEach es X.env := by rfl) (hpl : (backTo pos (starEach es X.env)).any (·.1) = false := by rfl) :
    PE X (.Call (.Name x p) (e :: es) [] pos) (tD μ (eCall (gN n g) f)) := (pe_clG C hr free hg ha hdb he hpl).wk fun σ H Q q => by
  obtain ⟨M0, H0, ρ, d, R, e, q⟩ := q
  obtain ⟨ds, ed, e⟩ := some_bind e
  refine ⟨M0, H0, ρ, ds, R, ed, fun vs H1 s1 r1 => ?_⟩
  unfold gN at e
  split at e
  · rename_i l
    rw [List.append_nil]
    exact ⟨_, ds, d, (R.mono s1).domu μ, r1, l, e, fun v H2 s2 r2 => q v H2 (s1.trans s2) r2⟩
  · cases e
end
end Dl
namespace Dl
open PySem PySem.Spec PyProof.Rows L2 Rt
section
variable {X : Cx} {K : PySem.W.Frag}
def neX : D → D → Option D
  | .list ds, .list [] => neL0 (.list ds) (.list [])
  | a, b => neD a b
theorem o_neX (hu : X.A.units + 64 < cLine) : OpR X (compareOp .NotEq) (rD neX) := by
  intro pn s σ H x y v u Q I rx ry h
  obtain ⟨M, a, b, d, dm, ra, rb, e, q⟩ := h
  unfold neX at e
  split at e
  · exact o_neL0 hu pn s σ H _ _ v u Q I rx ry ⟨M, _, _, d, dm, ra, rb, e, q⟩
  · exact o_ne hu pn s σ H _ _ v u Q I rx ry ⟨M, _, _, d, dm, ra, rb, e, q⟩
/-- a list + a list, a new one -/
def catL : D → D → Option D
  | .list a, .list b => if a.length + b.length ≤ sizeLine then some (.list (a ++ b)) else none
  | _, _ => none
theorem oE_catD {a b : Expr} {pos : Pos} {f1 f2 : EF} (ha : PE X a (tD true f1)) (hb : PE X b (tD true f2)) : PE X (.BinOp a .Add b pos) (tN (e2 catL f1 f2)) := (pe_op op_cat ha hb).wk fun σ H Q q => by
  obtain ⟨M0, H0, ρ, ds, R, e, q⟩ := q
  obtain ⟨d1, e1, ea⟩ := some_bind e
  obtain ⟨d2, e2, eb⟩ := some_bind ea
  clear e ea
  refine ⟨M0, H0, ρ, d1, R, e1, fun v1 H1 s1 r1 => ⟨M0, H0, ρ, d2, R.mono s1, e2, fun v2 H2 s2 r2 => ?_⟩⟩
  cases r1 <;> (try (cases r2 <;> cases eb; done))
  rename_i t n l r
  cases r2 <;> (try (cases eb; done))
  rename_i t2 n2 l2 r2
  obtain ⟨l3, e3⟩ := iteS eb
  cases e3
  refine ⟨_, _, _, _, rfl, rfl, s2 _ _ t, t2, by rw [r.len, r2.len]; exact l3, fun p hp => q p _ _ ?_ ((s1.trans s2).trans (smN hp)) upd_same (by rw [List.length_append, r.len, r2.len]; exact l3) ?_⟩
  · cases z : H p with
    | none => rfl
    | some o => rw [(s1.trans s2) _ _ z] at hp; cases hp
  · have k : ∀ a, Mi true M0 σ ρ p a → Mu true M0 σ ρ a ∨ H2 a = none := fun a m => by
      rcases m with m | rfl
      · exact .inl m
      · exact .inr hp
    exact (((r.mono (.of s2)).reM k).mono (.of (smN hp))).app ((r2.reM k).mono (.of (smN hp)))
def eqT0 : D → D → Option D
  | .tuple ds, .tuple [] => some (.bool ds.isEmpty)
  | _, _ => none
theorem o_eqT0 (hu : X.A.units + 64 < cLine) : OpR X (compareOp .Eq) (rD eqT0) := by
  intro pn s σ H x y v u Q I rx ry h
  obtain ⟨M, a, b, d, dm, ra, rb, e, q⟩ := h
  cases ra <;> (try (cases rb <;> cases e; done))
  rename_i xs ds t n l r
  cases rb <;> (try (cases e; done))
  rename_i xs2 ds2 t2 n2 l2 r2
  cases r2 <;> (try (cases e; done))
  cases e
  cases rx
  cases ry
  obtain ⟨its, vi, it, _⟩ := I.tuple t.sq
  obtain ⟨its2, vi2, it2, _⟩ := I.tuple t2.sq
  cases vi2
  refine SeqAt.RcAt.tuples (e := fun _ => true) it it2 (by omega) (fun j _ h2 => absurd h2 (by simp)) _ _ _ _ ⟨.bl _, H, I, ?_, q _ _ (Same.refl _) (.bl _)⟩
  show Value.bool _ = Value.bool _
  congr 1
  cases r <;> cases vi <;> simp
def eqX : D → D → Option D
  | .tuple ds, .tuple [] => eqT0 (.tuple ds) (.tuple [])
  | a, b => eqD a b
theorem o_eqX (hu : X.A.units + 64 < cLine) : OpR X (compareOp .Eq) (rD eqX) := by
  intro pn s σ H x y v u Q I rx ry h
  obtain ⟨M, a, b, d, dm, ra, rb, e, q⟩ := h
  unfold eqX at e
  split at e
  · exact o_eqT0 hu pn s σ H _ _ v u Q I rx ry ⟨M, _, _, d, dm, ra, rb, e, q⟩
  · exact o_eq hu pn s σ H _ _ v u Q I rx ry ⟨M, _, _, d, dm, ra, rb, e, q⟩
def eqS' : D → D → Option D
  | .str a, .str b => some (.bool (a == b))
  | _, _ => none
theorem o_eqS (hu : X.A.units + 64 < cLine) : OpR X (compareOp .Eq) (rD eqS') := by
  intro pn s σ H x y v u Q I rx ry h
  obtain ⟨M, a, b, d, dm, ra, rb, e, q⟩ := h
  cases ra <;> (try (cases rb <;> cases e; done))
  cases rb <;> (try (cases e; done))
  cases e
  obtain ⟨t, rfl⟩ := rx
  obtain ⟨t', rfl⟩ := ry
  exact SeqAt.RcAt.str_str _ _ _ _ _ _ _ _ ⟨.bl _, H, I, rfl, q _ _ (Same.refl _) (.bl _)⟩
end
end Dl
namespace Rt
open PySem PySem.Spec PyProof.Rows L2
mutual
/-- data in tuples -/
inductive Td (H : Hp) : V → PyData → Prop
  | non : Td H .non .none
  | bl (b : Bool) : Td H (.bl b) (.bool b)
  | int (i : Int) : Td H (.int i) (.int i)
  | str (z : Str) : Td H (.str z) (.str z)
  | tup {a : Addr} {xs : List V} {ds : List PyData} : H a = some (.tup xs) → TdAll H xs ds → Td H (.ref a) (.tuple ds)
inductive TdAll (H : Hp) : List V → List PyData → Prop
  | nil : TdAll H [] []
  | cons {v : V} {vs : List V} {d : PyData} {ds : List PyData} : Td H v d → TdAll H vs ds → TdAll H (v :: vs) (d :: ds)
end
mutual
theorem Td.mono {H H' : Hp} (t : Tk H H') : ∀ {v : V} {d : PyData}, Td H v d → Td H' v d
  | _, _, .non => .non
  | _, _, .bl b => .bl b
  | _, _, .int i => .int i
  | _, _, .str z => .str z
  | _, _, .tup e a => .tup (t _ _ e) (a.mono t)
theorem TdAll.mono {H H' : Hp} (t : Tk H H') : ∀ {v : List V} {d : List PyData}, TdAll H v d → TdAll H' v d
  | _, _, .nil => .nil
  | _, _, .cons a b => .cons (a.mono t) (b.mono t)
end
mutual
theorem Td.dp {K : PySem.W.Frag} {H : Hp} : ∀ {v : V} {d : PyData}, Td H v d → Dp K H v d
  | _, _, .non => .non
  | _, _, .bl b => .bl b
  | _, _, .int i => .int i
  | _, _, .str z => .str z
  | _, _, .tup e a => .tup (SqT.of e) a.dp
theorem TdAll.dp {K : PySem.W.Frag} {H : Hp} : ∀ {v : List V} {d : List PyData}, TdAll H v d → DpAll K H v d
  | _, _, .nil => .nil
  | _, _, .cons a b => .cons a.dp b.dp
end
/-- how deep, and how long it is shown -/
structure Lim (k n : Nat) (dd : PyData) : Prop where
  s : dd.showable = true
  h : dd.hasDict = false
  d : dd.depth ≤ k
  l : dd.shown.length ≤ n
theorem Lim.up {k n k' n' : Nat} {d : PyData} (h : Lim k n d) (a : k ≤ k') (b : n ≤ n') : Lim k' n' d := ⟨h.s, h.h, Nat.le_trans h.d a, Nat.le_trans h.l b⟩
theorem lim_all {k n : Nat} : ∀ {ds : List PyData}, (∀ d ∈ ds, Lim k n d) → PyData.showableAll ds = true ∧ PyData.hasDictAll ds = false ∧ PyData.depthAll ds ≤ k ∧ ((PyData.shownAll ds).map (·.length)).sum ≤ ds.length * n ∧ (PyData.shownAll ds).length = ds.length
  | [], _ => ⟨rfl, rfl, Nat.zero_le _, Nat.zero_le _, rfl⟩
  | d :: r, h => by
    obtain ⟨a, b, c, e, f⟩ := lim_all (ds := r) fun x hx => h x (List.mem_cons_of_mem _ hx)
    have hd := h d List.mem_cons_self
    refine ⟨?_, ?_, ?_, ?_, ?_⟩
    · show (d.showable && PyData.showableAll r) = true
      rw [hd.s, a]; rfl
    · show (d.hasDict || PyData.hasDictAll r) = false
      rw [hd.h, b]; rfl
    · show max d.depth (PyData.depthAll r) ≤ k
      exact Nat.max_le.mpr ⟨hd.d, c⟩
    · show d.shown.length + ((PyData.shownAll r).map (·.length)).sum ≤ (r.length + 1) * n
      rw [Nat.succ_mul]
      have := hd.l
      omega
    · show (PyData.shownAll r).length + 1 = r.length + 1
      rw [f]
theorem lim_tup {k n m : Nat} {ds : List PyData} (h : ∀ d ∈ ds, Lim k n d) (hm : ds.length ≤ m) : Lim (k + 1) (m * (n + 2) + 3) (.tuple ds) := by
  obtain ⟨a, b, c, e, f⟩ := lim_all h
  refine ⟨a, b, Nat.succ_le_succ c, Nat.le_trans (tupleText_len_le _) ?_⟩
  rw [f]
  have : ds.length * (n + 2) ≤ m * (n + 2) := Nat.mul_le_mul_right _ hm
  have e2 : ds.length * (n + 2) = ds.length * n + 2 * ds.length := by rw [Nat.mul_add, Nat.mul_comm ds.length 2]
  omega
theorem lim_lst {k n m : Nat} {ds : List PyData} (h : ∀ d ∈ ds, Lim k n d) (hm : ds.length ≤ m) : Lim (k + 1) (m * (n + 2) + 3) (.list ds) := by
  obtain ⟨a, b, c, e, f⟩ := lim_all h
  refine ⟨a, b, Nat.succ_le_succ c, Nat.le_trans (listText_len_le _) ?_⟩
  rw [f]
  have : ds.length * (n + 2) ≤ m * (n + 2) := Nat.mul_le_mul_right _ hm
  have e2 : ds.length * (n + 2) = ds.length * n + 2 * ds.length := by rw [Nat.mul_add, Nat.mul_comm ds.length 2]
  omega
/-- it is data in tuples that is shown within n signs -/
def Sh (k n : Nat) (H : Hp) (v : V) : Prop := ∃ d, Td H v d ∧ Lim k n d
theorem Sh.mono {k n : Nat} {H H' : Hp} {v : V} (t : Tk H H') (h : Sh k n H v) : Sh k n H' v := by
  obtain ⟨d, a, b⟩ := h
  exact ⟨d, a.mono t, b⟩
theorem Sh.up {k n k' n' : Nat} {H : Hp} {v : V} (h : Sh k n H v) (a : k ≤ k') (b : n ≤ n') : Sh k' n' H v := by
  obtain ⟨d, x, y⟩ := h
  exact ⟨d, x, y.up a b⟩
theorem sh_all {k n : Nat} {H : Hp} : ∀ {xs : List V}, (∀ x ∈ xs, Sh k n H x) → ∃ ds, TdAll H xs ds ∧ (∀ d ∈ ds, Lim k n d) ∧ ds.length = xs.length
  | [], _ => ⟨[], .nil, (fun d h => nomatch h), rfl⟩
  | x :: r, h => by
    obtain ⟨d, a, b⟩ := h x List.mem_cons_self
    obtain ⟨ds, c, e, f⟩ := sh_all (xs := r) fun y hy => h y (List.mem_cons_of_mem _ hy)
    refine ⟨d :: ds, .cons a c, fun z hz => ?_, by rw [List.length_cons, List.length_cons, f]⟩
    rcases List.mem_cons.mp hz with q | q
    · rw [q]; exact b
    · exact e z q
theorem Sh.tup {k n m : Nat} {H : Hp} {a : Addr} {xs : List V} (e : H a = some (.tup xs)) (h : ∀ x ∈ xs, Sh k n H x) (hm : xs.length ≤ m) : Sh (k + 1) (m * (n + 2) + 3) H (.ref a) := by
  obtain ⟨ds, c, l, f⟩ := sh_all h
  exact ⟨.tuple ds, .tup e c, lim_tup l (by omega)⟩
theorem Sh.int {H : Hp} {i : Int} (h : i.natAbs < 10 ^ 18) : Sh 0 19 H (.int i) := by
  refine ⟨.int i, .int i, ⟨?_, rfl, Nat.le_refl _, ?_⟩⟩
  · show decide (i.natAbs.log2 < 1920) = true
    refine decide_eq_true ?_
    have : i.natAbs.log2 < 60 ∨ i.natAbs = 0 := by
      by_cases z : i.natAbs = 0
      · exact .inr z
      · exact .inl ((Nat.log2_lt z).mpr (Nat.lt_of_lt_of_le h (by decide)))
    rcases this with q | q
    · omega
    · rw [q]; decide
  · have := int_text_length_le10 (a := i) (k := 18) (by decide) h
    show (Str.ofString (toString i)).length ≤ 19
    rw [PySem.ofString_length]
    exact this
theorem Sh.non {H : Hp} : Sh 0 19 H .non := ⟨.none, .non, ⟨rfl, rfl, Nat.le_refl _, by decide⟩⟩
theorem Sh.str {H : Hp} {z : Str} (h : (reprText z).length ≤ 19) : Sh 0 19 H (.str z) := ⟨.str z, .str z, ⟨rfl, rfl, Nat.le_refl _, h⟩⟩
theorem szB {n : Nat} (h : n ≤ 10000000) : n ≤ sizeLine := Nat.le_trans h (by decide)
end Rt
namespace Rt
open PySem PySem.Spec PyProof.Rows L2
section
variable {prog : Program} {w : World} {A : Around} {E : Value → Shared → Prop} {s : Shared}
theorem collect_tup {t : Addr} {us : List Value} {Q : List Value → Shared → Prop} (ht : IsTup s.heap t us.toArray)
    (hq : Q us { s with heap := (s.heap.push (seqObj "list" #[] 0)).update s.heap.objs.size (Obj.mapSeq (· ++ us.toArray)) }) (hz : us.length ≤ sizeLine) :
    wpAny (model prog w) A (collect (.ref t)) Q E s := by
  obtain ⟨ob, hob, hcl, m, hdt⟩ := id ht
  unfold collect
  refine wpAny_bind (wpAny_runValue (codeAny_builtin entry_proto_collect' ?_))
  show wpAny _ _ (do again (.builtin "list.__iadd__" ⟨[← newList [], .ref t], []⟩)) _ _ s
  refine wpAny_bind (wpAny_newList (wpAny_pure ⟨Code.quiet_builtin _ (by decide +kernel), codeAny_builtin entry_list_iadd' ?_⟩))
  show wpAny _ _ (Builtin.List.listExtendWith (.ref s.heap.objs.size) (.ref t) (.ref s.heap.objs.size)) _ _ { s with heap := s.heap.push (seqObj "list" #[] 0) }
  unfold Builtin.List.listExtendWith
  have hob' : (s.heap.push (seqObj "list" #[] 0)).get? t = some ob := Heap.get?_push_of_some _ hob
  refine wpAny_bind (wpAny_typeOf (T := "tuple") ⟨ob, hob', hcl⟩ ?_)
  have htt : (Value.type "tuple" == Value.type "tuple") = true := by rfl
  rw [if_pos (by rw [htt]; simp)]
  refine wpAny_bind (listItems_at hob' hdt ?_)
  refine wpAny_bind (listItems_at (xs := #[]) (n := 0) (Heap.get?_push_size _ rfl) rfl ?_)
  rw [if_neg (by simp)]
  refine wpAny_bind (listUpdate_at (xs := #[]) (n := 0) (Heap.get?_push_size _ rfl) rfl ?_ (Nat.zero_le _) (by show (#[] ++ us.toArray).size ≤ sizeLine + 1; simp only [Array.size_append, List.size_toArray, List.length_nil]; omega))
  refine wpAny_pure ?_
  show wpAny (model prog w) A (do
      let ld ← load s.heap.objs.size
      match ld.data with
      | .seq xs _ => pure xs.toList
      | _ => unsupported "internal:collect") Q E { s with heap := (s.heap.push (seqObj "list" #[] 0)).update s.heap.objs.size (Obj.mapSeq (· ++ us.toArray)) }
  refine wpAny_bind (wpAny_load (get?_update_seq (Heap.get?_push_size _ rfl) _) ?_)
  show wpAny _ _ (pure ((#[] : Array Value) ++ us.toArray).toList) Q E _
  rw [show ((#[] : Array Value) ++ us.toArray).toList = us by simp]
  exact wpAny_pure hq
theorem sorted_tup {t : Addr} {us : List Value} {ns : List Int} {Q : Value → Shared → Prop} (ht : IsTup s.heap t us.toArray) (hI : IntsAre us ns) (h64 : us.length < 64)
    (hq : ∀ (out : Array Value) (ns' : List Int), IntsAre out.toList ns' → ns'.Perm ns → ns'.Pairwise (· ≤ ·) → Q (.ref (s.heap.objs.size + 1)) { s with heap := sortedAll s.heap us out }) :
    wpAny (model prog w) A (call (.builtin "sorted") [.ref t]) Q E s := by
  refine Calls.call_function_entry kind_sorted plain_sorted entry_sorted (args_sorted1 _) ?_
  unfold Builtin.«sorted»
  refine wpAny_bind (m := checkCount "sorted" 1 1 _) (wpAny_pure ?_)
  refine wpAny_bind (collect_tup ht ?_ (small64 h64))
  refine wpAny_bind (wpAny_newList ?_)
  have e1 : ((s.heap.push (seqObj "list" #[] 0)).update s.heap.objs.size (Obj.mapSeq (· ++ us.toArray))).objs.size = s.heap.objs.size + 1 := by
    rw [Heap.size_update, size_push']
  have hoL : (((s.heap.push (seqObj "list" #[] 0)).update s.heap.objs.size (Obj.mapSeq (· ++ us.toArray))).push (seqObj "list" us.toArray 0)).get? (s.heap.objs.size + 1) = some (seqObj "list" us.toArray 0) := by
    rw [← e1]; exact Heap.get?_push_size _ rfl
  show wpAny _ _ _ _ _ { s with heap := ((s.heap.push (seqObj "list" #[] 0)).update s.heap.objs.size (Obj.mapSeq (· ++ us.toArray))).push (seqObj "list" us.toArray 0) }
  rw [e1]
  refine wpAny_bind (wpAny_holding (wpAny_call_entry slot_list_sort ⟨_, hoL, rfl⟩ entry_list_sort (list_sort_tree hoL hI h64 fun out ns' a1 a2 a3 => ⟨_, rfl, ?_⟩) (args_list_sort _)))
  exact wpAny_pure ⟨_, rfl, hq out ns' a1 a2 a3⟩
end
section
variable {X : Cx}
def rSortedTp (K : PySem.W.Frag) : List V → Hp → VK → Prop := fun vs H Q => ∃ (a : Addr) (ns : List Int), vs = [V.ref a] ∧ SqT K H a (ns.map V.int) ∧ ns.length < 64 ∧
  ∀ (ns' : List Int) (p : Addr) (H' : Hp), ns'.Perm ns → ns'.Pairwise (· ≤ ·) → H p = none → H' = upd H p (.lst (ns'.map V.int)) → Q (.ref p) H'
theorem cr_sortedTp : CallR X (.builtin "sorted") (rSortedTp X.K) := by
  intro pn s σ H vs us Q I r h
  obtain ⟨a, ns, rfl, hs, h64, q⟩ := h
  obtain ⟨its, rv, hl, _⟩ := I.tuple hs
  rw [Vals.ref1 r]
  have hi := rv.ints
  refine sorted_tup hl hi (by rw [hi.length]; exact h64) fun out ns' h1 h2 h3 => ?_
  obtain ⟨ep, he'⟩ := PyProof.Rows.sortedAll_at s.heap its out
  have hln : (ns'.map V.int).length ≤ sizeLine := by rw [List.length_map, h2.length_eq]; exact small64 h64
  exact ⟨.ref _, upd H (s.heap.objs.size + 1) (.lst (ns'.map V.int)), I.laid (t' := s.toks) (fun _ _ => PyProof.Rows.sortedAll_old) (Nat.le_succ _) ⟨hln, out.toList, ep, vals_of_ints h1, he'⟩, rfl, q ns' _ _ h2 h3 (I.hok.fresh (Nat.le_succ _)) rfl⟩
end
end Rt
namespace Rt
open PySem PySem.Spec PyProof.Rows L2
def topS (i : Nat) : Stmt := PySem.Challenge.pw_rightage_k17_whole_what_is_followed_is_h.main.body.getD i (.Pass ⟨0, 0, 0, 0⟩)
abbrev s_is_number : Stmt := topS 4
theorem sc_is_number : FnScope ["thing"] ["thing"] (defScope s_is_number) := ⟨rfl, rfl, rfl, by decide +kernel, rfl, by decide +kernel, by decide +kernel⟩
abbrev s_is_number_from : Stmt := topS 5
theorem sc_is_number_from : FnScope ["thing", "low", "high"] ["thing", "low", "high"] (defScope s_is_number_from) := ⟨rfl, rfl, rfl, by decide +kernel, rfl, by decide +kernel, by decide +kernel⟩
abbrev s_is_row : Stmt := topS 6
theorem sc_is_row : FnScope ["thing", "fewest", "most"] ["thing", "fewest", "most"] (defScope s_is_row) := ⟨rfl, rfl, rfl, by decide +kernel, rfl, by decide +kernel, by decide +kernel⟩
abbrev s_place_of : Stmt := topS 8
theorem sc_place_of : FnScope ["world", "number"] ["world", "number"] (defScope s_place_of) := ⟨rfl, rfl, rfl, by decide +kernel, rfl, by decide +kernel, by decide +kernel⟩
abbrev s_first_of : Stmt := topS 9
theorem sc_first_of : FnScope ["world", "source", "kind", "age", "place", "since", "many"] ["world", "source"] (defScope s_first_of) := ⟨rfl, rfl, rfl, by decide +kernel, rfl, by decide +kernel, by decide +kernel⟩
abbrev s_bears : Stmt := topS 10
theorem sc_bears : FnScope ["world", "way", "moment", "origins", "kind", "parts", "keeps", "hours", "wait", "origin"] ["world", "way", "moment", "origins"] (defScope s_bears) := ⟨rfl, rfl, rfl, by decide +kernel, rfl, by decide +kernel, by decide +kernel⟩
abbrev s_is_table : Stmt := topS 12
theorem sc_is_table : FnScope ["world", "thing", "span", "kinds", "sources", "ways", "rows", "place", "row"] ["world", "thing"] (defScope s_is_table) := ⟨rfl, rfl, rfl, by decide +kernel, rfl, by decide +kernel, by decide +kernel⟩
abbrev s_is_age_row : Stmt := topS 13
theorem sc_is_age_row : FnScope ["world", "place", "row", "cell", "ahead", "behind"] ["world", "place", "row"] (defScope s_is_age_row) := ⟨rfl, rfl, rfl, by decide +kernel, rfl, by decide +kernel, by decide +kernel⟩
abbrev s_is_cell : Stmt := topS 14
theorem sc_is_cell : FnScope ["world", "place", "cell"] ["world", "place", "cell"] (defScope s_is_cell) := ⟨rfl, rfl, rfl, by decide +kernel, rfl, by decide +kernel, by decide +kernel⟩
abbrev s_is_above : Stmt := topS 15
theorem sc_is_above : FnScope ["one", "other"] ["one", "other"] (defScope s_is_above) := ⟨rfl, rfl, rfl, by decide +kernel, rfl, by decide +kernel, by decide +kernel⟩
abbrev s_has : Stmt := topS 16
theorem sc_has : FnScope ["world", "table", "kind", "origin", "age", "cell"] ["world", "table", "kind", "origin", "age"] (defScope s_has) := ⟨rfl, rfl, rfl, by decide +kernel, rfl, by decide +kernel, by decide +kernel⟩
abbrev s_first_there : Stmt := topS 17
theorem sc_first_there : FnScope ["world", "table", "kind", "place", "age", "cell"] ["world", "table", "kind", "place", "age"] (defScope s_first_there) := ⟨rfl, rfl, rfl, by decide +kernel, rfl, by decide +kernel, by decide +kernel⟩
abbrev s_both : Stmt := topS 18
theorem sc_both : FnScope ["world", "one", "other"] ["world", "one", "other"] (defScope s_both) := ⟨rfl, rfl, rfl, by decide +kernel, rfl, by decide +kernel, by decide +kernel⟩
abbrev s_higher_cell : Stmt := topS 19
theorem sc_higher_cell : FnScope ["one", "other"] ["one", "other"] (defScope s_higher_cell) := ⟨rfl, rfl, rfl, by decide +kernel, rfl, by decide +kernel, by decide +kernel⟩
abbrev s_cell_by_cell : Stmt := topS 20
theorem sc_cell_by_cell : FnScope ["choose", "one", "other", "rows", "besides", "row", "beside"] ["choose", "one", "other"] (defScope s_cell_by_cell) := ⟨rfl, rfl, rfl, by decide +kernel, rfl, by decide +kernel, by decide +kernel⟩
abbrev s_rows_by_cell : Stmt := topS 21
theorem sc_rows_by_cell : FnScope ["choose", "row", "beside", "cell", "counter"] ["choose", "row", "beside"] (defScope s_rows_by_cell) := ⟨rfl, rfl, rfl, by decide +kernel, rfl, by decide +kernel, by decide +kernel⟩
abbrev s_is_brought_leak : Stmt := topS 23
theorem sc_is_brought_leak : FnScope ["world", "table", "source", "kind", "age", "place", "since", "many"] ["world", "table", "source"] (defScope s_is_brought_leak) := ⟨rfl, rfl, rfl, by decide +kernel, rfl, by decide +kernel, by decide +kernel⟩
abbrev s_is_made_leak : Stmt := topS 24
theorem sc_is_made_leak : FnScope ["world", "table", "way", "place", "ages", "kind", "parts", "keeps", "hours", "wait", "moments", "moment", "origin", "born", "part", "age"] ["world", "table", "way", "place", "ages"] (defScope s_is_made_leak) := ⟨rfl, rfl, rfl, by decide +kernel, rfl, by decide +kernel, by decide +kernel⟩
abbrev s_leak : Stmt := topS 25
theorem sc_leak : FnScope ["world", "table", "source", "k", "way", "place", "ages"] ["world", "table"] (defScope s_leak) := ⟨rfl, rfl, rfl, by decide +kernel, rfl, by decide +kernel, by decide +kernel⟩
abbrev s_leaking_ages : Stmt := topS 26
theorem sc_leaking_ages : FnScope ["world", "table", "way", "place", "kind", "parts", "keeps", "hours", "wait", "options", "j", "rows", "moment", "age", "ages", "part"] ["world", "table", "way", "place"] (defScope s_leaking_ages) := ⟨rfl, rfl, rfl, by decide +kernel, rfl, by decide +kernel, by decide +kernel⟩
abbrev s_part_options : Stmt := topS 27
theorem sc_part_options : FnScope ["world", "table", "part", "place", "kind", "least", "greatest", "firsts", "age", "moment"] ["world", "table", "part", "place"] (defScope s_part_options) := ⟨rfl, rfl, rfl, by decide +kernel, rfl, by decide +kernel, by decide +kernel⟩
abbrev s_ages_beside : Stmt := topS 28
theorem sc_ages_beside : FnScope ["keeps", "options", "handing", "age", "told", "j", "rows", "beside", "row"] ["keeps", "options", "handing", "age"] (defScope s_ages_beside) := ⟨rfl, rfl, rfl, by decide +kernel, rfl, by decide +kernel, by decide +kernel⟩
abbrev s_is_shut : Stmt := topS 29
theorem sc_is_shut : FnScope ["world", "thing"] ["world", "thing"] (defScope s_is_shut) := ⟨rfl, rfl, rfl, by decide +kernel, rfl, by decide +kernel, by decide +kernel⟩
abbrev s_law_pool : Stmt := topS 31
theorem sc_law_pool : FnScope ["_law_script", "_law_great", "_law_cell"] ["_law_script"] (defScope s_law_pool) := ⟨rfl, rfl, rfl, by decide +kernel, rfl, by decide +kernel, by decide +kernel⟩
abbrev s_law_draw : Stmt := topS 32
theorem sc_law_draw : FnScope ["_law_pool_here", "_law_many", "_law_cell"] ["_law_pool_here", "_law_many"] (defScope s_law_draw) := ⟨rfl, rfl, rfl, by decide +kernel, rfl, by decide +kernel, by decide +kernel⟩
abbrev s_law_any : Stmt := topS 33
theorem sc_law_any : FnScope ["_law_pool_here", "_law_some"] ["_law_pool_here", "_law_some"] (defScope s_law_any) := ⟨rfl, rfl, rfl, by decide +kernel, rfl, by decide +kernel, by decide +kernel⟩
abbrev s_law_way : Stmt := topS 34
theorem sc_law_way : FnScope ["_law_pool_here", "_law_size", "_law_names", "_law_wide", "_law_parts", "_law_many", "_law_turn", "_law_least", "_law_more", "_law_hours", "_law_keeps", "_law_place"] ["_law_pool_here", "_law_size", "_law_names", "_law_wide"] (defScope s_law_way) := ⟨rfl, rfl, rfl, by decide +kernel, rfl, by decide +kernel, by decide +kernel⟩
abbrev s_law_world : Stmt := topS 35
theorem sc_law_world : FnScope ["_law_pool_here", "_law_wide", "_law_size", "_law_names", "_law_sources", "_law_turn", "_law_since", "_law_source", "_law_ways"] ["_law_pool_here", "_law_wide"] (defScope s_law_world) := ⟨rfl, rfl, rfl, by decide +kernel, rfl, by decide +kernel, by decide +kernel⟩
abbrev s_law_origin : Stmt := topS 36
theorem sc_law_origin : FnScope ["_law_pool_here", "_law_size", "_law_place", "_law_peaks", "_law_least", "_law_far", "_law_peak"] ["_law_pool_here", "_law_size", "_law_place", "_law_peaks"] (defScope s_law_origin) := ⟨rfl, rfl, rfl, by decide +kernel, rfl, by decide +kernel, by decide +kernel⟩
abbrev s_law_stair : Stmt := topS 37
theorem sc_law_stair : FnScope ["_law_pool_here", "_law_size", "_law_place", "_law_peaks", "_law_found", "_law_turn", "_law_number", "_law_begin", "_law_age"] ["_law_pool_here", "_law_size", "_law_place", "_law_peaks"] (defScope s_law_stair) := ⟨rfl, rfl, rfl, by decide +kernel, rfl, by decide +kernel, by decide +kernel⟩
abbrev s_law_table : Stmt := topS 38
theorem sc_law_table : FnScope ["_law_pool_here", "_law_world_here", "_law_peaks", "_law_size", "_law_kind", "_law_place"] ["_law_pool_here", "_law_world_here", "_law_peaks"] (defScope s_law_table) := ⟨rfl, rfl, rfl, by decide +kernel, rfl, by decide +kernel, by decide +kernel⟩
abbrev s_law_empty : Stmt := topS 39
theorem sc_law_empty : FnScope ["_law_world_here"] ["_law_world_here"] (defScope s_law_empty) := ⟨rfl, rfl, rfl, by decide +kernel, rfl, by decide +kernel, by decide +kernel⟩
abbrev s_law_stands : Stmt := topS 40
theorem sc_law_stands : FnScope ["_law_world_here", "_law_sheet", "_law_kind", "_law_place", "_law_age"] ["_law_world_here", "_law_sheet", "_law_kind", "_law_place", "_law_age"] (defScope s_law_stands) := ⟨rfl, rfl, rfl, by decide +kernel, rfl, by decide +kernel, by decide +kernel⟩
abbrev s_law_has : Stmt := topS 41
theorem sc_law_has : FnScope ["_law_world_here", "_law_sheet", "_law_kind", "_law_origin_here", "_law_age", "_law_number"] ["_law_world_here", "_law_sheet", "_law_kind", "_law_origin_here", "_law_age"] (defScope s_law_has) := ⟨rfl, rfl, rfl, by decide +kernel, rfl, by decide +kernel, by decide +kernel⟩
abbrev s_law_brought : Stmt := topS 42
theorem sc_law_brought : FnScope ["_law_world_here", "_law_source", "_law_kind", "_law_age", "_law_place", "_law_since", "_law_many"] ["_law_world_here", "_law_source"] (defScope s_law_brought) := ⟨rfl, rfl, rfl, by decide +kernel, rfl, by decide +kernel, by decide +kernel⟩
abbrev s_law_made : Stmt := topS 43
theorem sc_law_made : FnScope ["_law_world_here", "_law_sheet", "_law_way_here", "_law_place", "_law_ages", "_law_kind", "_law_parts", "_law_keeps", "_law_hours", "_law_wait", "_law_moment", "_law_part", "_law_age", "_law_number", "_law_own"] ["_law_world_here", "_law_sheet", "_law_way_here", "_law_place", "_law_ages"] (defScope s_law_made) := ⟨rfl, rfl, rfl, by decide +kernel, rfl, by decide +kernel, by decide +kernel⟩
abbrev s_law_choices : Stmt := topS 44
theorem sc_law_choices : FnScope ["_law_way_here", "_law_found", "_law_kind", "_law_least", "_law_high", "_law_longer", "_law_one", "_law_age"] ["_law_way_here"] (defScope s_law_choices) := ⟨rfl, rfl, rfl, by decide +kernel, rfl, by decide +kernel, by decide +kernel⟩
abbrev s_law_lacked : Stmt := topS 45
theorem sc_law_lacked : FnScope ["_law_world_here", "_law_sheet", "_law_thing"] ["_law_world_here", "_law_sheet", "_law_thing"] (defScope s_law_lacked) := ⟨rfl, rfl, rfl, by decide +kernel, rfl, by decide +kernel, by decide +kernel⟩
abbrev s_law_put : Stmt := topS 46
theorem sc_law_put : FnScope ["_law_world_here", "_law_sheet", "_law_thing", "_law_kind", "_law_origin_here", "_law_age", "_law_at", "_law_place", "_law_stair_here", "_law_k", "_law_row"] ["_law_world_here", "_law_sheet", "_law_thing"] (defScope s_law_put) := ⟨rfl, rfl, rfl, by decide +kernel, rfl, by decide +kernel, by decide +kernel⟩
abbrev s_law_closed : Stmt := topS 47
theorem sc_law_closed : FnScope ["_law_world_here", "_law_sheet", "_law_source", "_law_ahead", "_law_way_here", "_law_place", "_law_ages", "_law_thing"] ["_law_world_here", "_law_sheet"] (defScope s_law_closed) := ⟨rfl, rfl, rfl, by decide +kernel, rfl, by decide +kernel, by decide +kernel⟩
abbrev s_law_loosened : Stmt := topS 48
theorem sc_law_loosened : FnScope ["_law_pool_here", "_law_world_here", "_law_sheet", "_law_at", "_law_place", "_law_many", "_law_stair_here", "_law_far", "_law_begun", "_law_number", "_law_row"] ["_law_pool_here", "_law_world_here", "_law_sheet"] (defScope s_law_loosened) := ⟨rfl, rfl, rfl, by decide +kernel, rfl, by decide +kernel, by decide +kernel⟩
abbrev s_law_followed : Stmt := topS 49
theorem sc_law_followed : FnScope ["_law_pool_here", "_law_world_here", "_law_lot", "_law_source", "_law_moment", "_law_kind", "_law_parts", "_law_keeps", "_law_hours", "_law_wait", "_law_alike", "_law_first", "_law_taken", "_law_name", "_law_least", "_law_high", "_law_some", "_law_one", "_law_age", "_law_thing"] ["_law_pool_here", "_law_world_here", "_law_lot"] (defScope s_law_followed) := ⟨rfl, rfl, rfl, by decide +kernel, rfl, by decide +kernel, by decide +kernel⟩
abbrev s_law : Stmt := topS 50
theorem sc_law : FnScope ["_law_script", "_law_pool_here", "_law_world_here", "_law_lot", "_law_turn", "_law_thing", "_law_tables", "_law_sheet", "_law_kind", "_law_origin_here", "_law_born", "_law_behind", "_law_age", "_law_loose", "_law_lacked_here"] ["_law_script"] (defScope s_law) := ⟨rfl, rfl, rfl, by decide +kernel, rfl, by decide +kernel, by decide +kernel⟩
theorem sm_new {H : Hp} {p : Addr} {o : HO} (h : H p = none) : Same H (upd H p o) := fun b x e => by
  rw [upd_ne (ne_of_none e h)]
  exact e
theorem sm_mut {H H' : Hp} {p : Addr} {o : HO} (e : Same H H') (h : H p = none) : Same H (upd H' p o) := fun b x z => by
  rw [upd_ne (ne_of_none z h)]
  exact e b x z
theorem ne_of_some {H : Hp} {p q : Addr} {o : HO} (h : H p = some o) (n : H q = none) : q ≠ p := fun e => by
  rw [e, h] at n
  cases n
theorem ifSet {t : TT} {te : TE} {i : Nat} {D : Ends} {σ : L2.St} {H : Hp} (hh : ∀ N : L2.St → Hp → Prop, (∀ y : Int, N (σ.set i (some (.int y))) H) → t σ H fun b H1 => if b = true then te σ H1 (fun v H2 => N (σ.set i (some v)) H2) else N σ H1)
    (q : ∀ y : Int, D.nx (σ.set i (some (.int y))) H) : tIfS t (tAsg te (gName i)) tNext D σ H := hh D.nx q
theorem asgC {v : V} {i : Nat} {D : Ends} {σ : L2.St} {H : Hp} (q : D.nx (σ.set i (some v)) H) : tAsg (tC v) (gName i) D σ H := q
section
variable {P : Program} {w : World} {K : PySem.W.Frag} {mg : Str → Option Value} {base : Heap}
def spDraws (K : PySem.W.Frag) : Sp := fun vs H Q _ => ∃ (a : Addr) (ns : List Int), vs = [.ref a] ∧ SqL K H a (ns.map V.int) ∧ ns.length ≤ 63 ∧
  ∀ g H', Same H H' → Fu g 10000000000000000000 H' → Q (.ref g.d) H'
theorem ok_pool {f : Addr} {fd : FuncData} {k : Nat} (F : Fun K "_law_pool" "_law_pool" s_law_pool f fd) : FnOk P w K mg base CX0 (k + 1) f fd ["_law_script"] (spDraws K) := by
  refine F.ok sc_law_pool (fun vs H Q E h => ?_) (fun cdv A outer s H vs Q E hr h => ?_)
  · obtain ⟨a, ns, rfl, _⟩ := h
    rfl
  · obtain ⟨a, ns, rfl, hS, hn, q⟩ := h
    refine ⟨_, (pss_cons (ps_setLc (i := 1) (own := [("_law_cell", 2)]) (g := (gName 2)) rfl sc_law_pool.nd rfl rfl (sw_true rfl rfl rfl (by decide +kernel)) (pi_list (pv 0)) (blkOk_by (own := [("_law_cell", 2)]) (N := ["_law_script", "_law_great", "_law_cell"]) (sc := defScope s_law_pool) (by decide +kernel)) (fun _ _ _ _ _ => (pg_name (i := 2) sc_law_pool.nd rfl (.inl rfl))) (fun _ _ _ _ _ => (pts_one (pt_cmpR op_ge (pv 2) (pe_op op_powL pe_int pe_int) (nomark _)))) (fun _ _ _ _ _ => (pv 2)))
  (pss_one (ps_ret (pe_lstL (pa_cons (pv 1) (pa_cons (pe_lc (own := [("_law_cell", 2)]) (g := (gName 2)) rfl sc_law_pool.nd (pi_list (pv 0)) (blkOk_by (own := [("_law_cell", 2)]) (N := ["_law_script", "_law_great", "_law_cell"]) (sc := defScope s_law_pool) (by decide +kernel)) (fun _ _ _ _ _ => (pg_name (i := 2) sc_law_pool.nd rfl (.inl rfl))) (fun _ _ _ _ _ => (pts_one (pt_cmpR op_lt (pv 2) (pe_op op_powL pe_int pe_int) (nomark _)))) (fun _ _ _ _ _ => (pv 2))) (pa_cons pe_int (pa_cons pe_int pa_nil)))))))), ?_⟩
    have ent : ∀ {i : Nat} {x : V}, (ns.map V.int)[i]? = some x → ∃ z, x = V.int z := fun {i x} hx => by
      obtain ⟨z, _, e⟩ := List.mem_map.mp (List.mem_of_getElem? hx)
      exact ⟨z, e.symm⟩
    refine ⟨.ref a, rfl, a, rfl, ⟨_, hS⟩, fun c nc => ?_⟩
    refine lc_list (K := K) (a := a) (xs := ns.map V.int) (fun i H' => Same H H' ∧ ∃ rs : List Int, H' c = some (.lst (rs.map V.int)) ∧ rs.length ≤ i) ⟨sm_new nc, [], upd_same, Nat.le_refl _⟩ (fun i H' _ h => h.1.seq hS) (fun i x H' hx h => ?_) (fun H1 h => ?_)
    · obtain ⟨sm, rs, eD, er⟩ := h
      obtain ⟨z, rfl⟩ := ent hx
      have hi : i < (ns.map V.int).length := (List.getElem?_eq_some_iff.mp hx).1
      rw [List.length_map] at hi
      refine ⟨rfl, .int z, rfl, 10, 18, rfl, rfl, by decide, by decide, by decide, fun y ey => ⟨z, y, rfl, rfl, _, rfl, ite2 (fun e => ?_) (fun e => ⟨sm, rs, eD, by omega⟩)⟩⟩
      refine ⟨.int z, rfl, _, eD, by rw [List.length_map]; exact szl (by omega), sm_mut sm nc, rs ++ [z], ?_, ?_⟩
      · rw [upd_same, List.map_append]; rfl
      · rw [List.length_append]; simp; omega
    obtain ⟨s1, gs, eg, lg⟩ := h
    rw [List.length_map] at lg
    refine ⟨.ref c, rfl, .ref a, rfl, a, rfl, ⟨_, s1.seq hS⟩, fun D nD => ?_⟩
    have dn : D ≠ c := ne_of_some eg nD
    refine lc_list (K := K) (a := a) (xs := ns.map V.int) (fun i H' => Same H1 H' ∧ ∃ rs : List Int, H' D = some (.lst (rs.map V.int)) ∧ rs.length ≤ i) ⟨sm_new nD, [], upd_same, Nat.le_refl _⟩ (fun i H' _ h => h.1.seq (s1.seq hS)) (fun i x H' hx h => ?_) (fun H2 h => ?_)
    · obtain ⟨sm, rs, eD, er⟩ := h
      obtain ⟨z, rfl⟩ := ent hx
      have hi : i < (ns.map V.int).length := (List.getElem?_eq_some_iff.mp hx).1
      rw [List.length_map] at hi
      refine ⟨rfl, .int z, rfl, 10, 18, rfl, rfl, by decide, by decide, by decide, fun y ey => ⟨z, y, rfl, rfl, _, rfl, ite2 (fun e => ?_) (fun e => ⟨sm, rs, eD, by omega⟩)⟩⟩
      refine ⟨.int z, rfl, _, eD, by rw [List.length_map]; exact szl (by omega), sm_mut sm nD, rs ++ [z], ?_, ?_⟩
      · rw [upd_same, List.map_append]; rfl
      · rw [List.length_append]; simp; omega
    obtain ⟨s2, rs, er, lr⟩ := h
    rw [List.length_map] at lr
    refine ⟨sz (n := 4) (by decide), fun d H3 nd eH3 => ?_⟩
    have eg2 := s2 _ _ eg
    subst eH3
    exact q ⟨d, D, c, 0⟩ _ ((s1.trans s2).trans (sm_new nd)) ⟨0, ⟨⟨5, upd_same, by decide, by decide⟩, ⟨rs, sm_new nd _ _ er, by omega⟩, ⟨gs, sm_new nd _ _ eg2, by omega⟩, ne_of_some er nd, ne_of_some eg2 nd, dn, by decide⟩, by decide⟩
def spNext : Sp := fun vs H Q _ => ∃ (g : Gd) (B : Nat) (b : Int), vs = [.ref g.d, .int b] ∧ Fu g B H ∧ 1 ≤ B ∧ 0 < b ∧ b < 2 ^ 60 ∧
  ∀ v H', 0 ≤ v → v < b → Fu g (B - 1) H' → Kp g H H' → Q (.int v) H'
theorem ok_draw {f : Addr} {fd : FuncData} {k : Nat} (F : Fun K "_law_draw" "_law_draw" s_law_draw f fd) (m_len : mg "len" = none) : FnOk P w K mg base CX0 (k + 1) f fd ["_law_pool_here", "_law_many"] spNext := by
  refine F.ok sc_law_draw (fun vs H Q E h => ?_) (fun cdv A outer s H vs Q E hr h => ?_)
  · obtain ⟨g, B, b, rfl, _⟩ := h
    rfl
  · obtain ⟨g, B, b, rfl, ⟨t, D, hB⟩, hB1, hb0, hb, q⟩ := h
    obtain ⟨a, hd, a0, a1⟩ := D.hd
    obtain ⟨cs, hc, ec⟩ := D.hc
    obtain ⟨gs, hg, eg⟩ := D.hr
    have t0 := D.t0
    refine ⟨_, (pss_cons (ps_if (pt_cmpR op_gt (pe_callB call_len (by rfl) m_len (by decide +kernel) (pa_cons (pe_ix ix_list (pv 0) pe_int (fun _ _ => rfl)) pa_nil)) pe_int (nomark _))
    (pss_cons (ps_set (i := 2) sc_law_draw.nd rfl (.inl rfl) (pe_ix ix_list (pe_ix ix_list (pv 0) pe_int (fun _ _ => rfl)) pe_int (fun _ _ => rfl)))
  (pss_cons (ps_asg (pe_op op_divL (pv 2) (pv 1)) (pg_sub (pe_ix ix_list (pv 0) pe_int (fun _ _ => rfl)) pe_int set_listL))
  (pss_cons (ps_if (pt_cmpR op_eq (pe_op op_divL (pv 2) (pv 1)) pe_int (nomark _))
    (pss_one (ps_expr (pe_bm PySem.F.plainAttrs_list PySem.F.slot_list_pop PySem.F.type_list_pop mt_popAt (pe_ix ix_list (pv 0) pe_int (fun _ _ => rfl)) (pa_cons pe_int pa_nil))))
    pss_nil)
  (pss_one (ps_ret (pe_op op_modL (pv 2) (pv 1)))))))
    pss_nil)
  (pss_cons (ps_asg (pe_op op_addL (pe_ix ix_list (pv 0) pe_int (fun _ _ => rfl)) pe_int) (pg_sub (pv 0) pe_int set_listL))
  (pss_cons (ps_set (i := 2) sc_law_draw.nd rfl (.inl rfl) pe_int)
  (pss_cons (ps_if (pt_cmpR op_gt (pe_callB call_len (by rfl) m_len (by decide +kernel) (pa_cons (pe_ix ix_list (pv 0) pe_int (fun _ _ => rfl)) pa_nil)) pe_int (nomark _))
    (pss_one (ps_set (i := 2) sc_law_draw.nd rfl (.inl rfl) (pe_ix ix_list (pe_ix ix_list (pv 0) pe_int (fun _ _ => rfl)) (pe_op op_modL (pe_ix ix_list (pv 0) pe_int (fun _ _ => rfl)) (pe_callB call_len (by rfl) m_len (by decide +kernel) (pa_cons (pe_ix ix_list (pv 0) pe_int (fun _ _ => rfl)) pa_nil))) (fun _ _ => rfl))))
    pss_nil)
  (pss_cons (ps_set (i := 2) sc_law_draw.nd rfl (.inl rfl) (pe_op op_mulL (pe_op op_modL (pv 2) pe_int) (pe_op op_addL (pe_op op_mulL (pe_ix ix_list (pv 0) pe_int (fun _ _ => rfl)) (pe_ix ix_list (pv 0) pe_int (fun _ _ => rfl))) pe_int)))
  (pss_cons (ps_asg (pe_op op_modL (pe_op op_addL (pe_op op_addL (pe_op op_mulL (pe_ix ix_list (pv 0) pe_int (fun _ _ => rfl)) pe_int) (pv 2)) (pe_op op_mulL pe_int (pe_ix ix_list (pv 0) pe_int (fun _ _ => rfl)))) pe_int) (pg_sub (pv 0) pe_int set_listL))
  (pss_one (ps_ret (pe_op op_modL (pe_op op_divL (pe_op op_modL (pe_op op_powL (pe_ix ix_list (pv 0) pe_int (fun _ _ => rfl)) pe_int) pe_int) pe_int) (pv 1)))))))))), ?_⟩
    refine ⟨.ref g.d, rfl, g.d, _, 0, _, rfl, rfl, SqL.of hd, rfl, .ref g.r, gs.length, rfl, .inl ⟨_, SqL.of hg, (List.length_map ..).symm⟩, (gs.length : Int), 0, rfl, rfl, _, rfl, ite2 (fun e => ?_) (fun e => ?_)⟩
    · -- a digit of a great cell
      have e : 0 < gs.length := by have := of_decide_eq_true e; omega
      obtain ⟨x, gr, rfl⟩ : ∃ x gr, gs = x :: gr := by
        cases gs with
        | nil => exact absurd e (by decide)
        | cons x gr => exact ⟨x, gr, rfl⟩
      have h0 : atI ((x :: gr).map V.int) 0 = some (.int x) := atI_nat (j := 0) rfl
      refine ⟨.ref g.d, rfl, g.d, _, 0, _, rfl, rfl, SqL.of hd, rfl, g.r, _, 0, _, rfl, rfl, SqL.of hg, h0, ?_⟩
      refine ⟨.int x, rfl, .int b, rfl, x, b, rfl, rfl, wide_div (b := 60) hb0 (by omega) (by decide) (by decide), fun z ez => ?_⟩
      refine ⟨.ref g.d, rfl, g.d, _, 0, _, rfl, rfl, SqL.of hd, rfl, g.r, _, 0, 0, rfl, rfl, hg, ixN_in (by decide) (by rw [List.length_map]; simp), fun H1 eH1 => ?_⟩
      have eH1 : H1 = upd H g.r (.lst ((z :: gr).map V.int)) := eH1
      have hg1 : H1 g.r = some (.lst ((z :: gr).map V.int)) := by rw [eH1]; exact upd_same
      have hd1 : H1 g.d = some (.lst [.ref g.r, .ref g.c, .int a, .int t]) := by rw [eH1, upd_ne D.dr]; exact hd
      have hc1 : H1 g.c = some (.lst (cs.map V.int)) := by rw [eH1, upd_ne D.cr]; exact hc
      have K1 : Kp g H H1 := fun p o h1 h2 e => by rw [eH1, upd_ne h2]; exact e
      have D1 : Dr g t H1 := ⟨⟨a, hd1, a0, a1⟩, ⟨cs, hc1, ec⟩, ⟨z :: gr, hg1, eg⟩, D.dc, D.dr, D.cr, t0⟩
      refine ⟨.int x, rfl, .int b, rfl, x, b, rfl, rfl, wide_div (b := 60) hb0 (by omega) (by decide) (by decide), fun z2 ez2 => ⟨rfl, _, rfl, ite2 (fun e => ?_) (fun e => ?_)⟩⟩
      · refine ⟨.ref g.d, rfl, g.d, _, 0, _, rfl, rfl, SqL.of hd1, rfl, .inl ⟨rfl, _, SqL.of hg1⟩, g.r, _, 0, 0, _, rfl, rfl, hg1, by decide, by decide, (ixN_seq (ixN_in (n := ((z :: gr).map V.int).length) (i := 0) (by decide) (by rw [List.length_map]; simp))).1, rfl, ?_⟩
        refine ⟨.int x, rfl, .int b, rfl, x, b, rfl, rfl, hb0, fun v ev v0 v1 => ?_⟩
        refine q v _ v0 v1 ⟨t, ⟨⟨a, ?_, a0, a1⟩, ⟨cs, ?_, ec⟩, ⟨gr, upd_same, by have : gr.length + 1 ≤ 63 := eg; omega⟩, D.dc, D.dr, D.cr, t0⟩, by omega⟩ (fun p o h1 h2 e => ?_)
        · rw [upd_ne D.dr]; exact hd1
        · rw [upd_ne D.cr]; exact hc1
        · rw [upd_ne h2]; exact K1 p o h1 h2 e
      · exact ⟨.int x, rfl, .int b, rfl, x, b, rfl, rfl, hb0, fun v ev v0 v1 => q v _ v0 v1 ⟨t, D1, by omega⟩ K1⟩
    · -- a mixed one
      refine ⟨.ref g.d, rfl, g.d, _, 3, _, rfl, rfl, SqL.of hd, rfl, t, 1, rfl, rfl, fun t1 et1 => ⟨.ref g.d, rfl, g.d, _, 3, 3, rfl, rfl, hd, rfl, fun H1 eH1 => ?_⟩⟩
      have eH1 : H1 = upd H g.d (.lst [.ref g.r, .ref g.c, .int a, .int t1]) := eH1
      have hd1 : H1 g.d = some (.lst [.ref g.r, .ref g.c, .int a, .int t1]) := by rw [eH1]; exact upd_same
      have hc1 : H1 g.c = some (.lst (cs.map V.int)) := by rw [eH1, upd_ne D.dc.symm]; exact hc
      have hg1 : H1 g.r = some (.lst (gs.map V.int)) := by rw [eH1, upd_ne D.dr.symm]; exact hg
      have K1 : Kp g H H1 := fun p o h1 h2 e => by rw [eH1, upd_ne h1]; exact e
      dsimp only [tSeq]
      refine asgC ?_
      dsimp only
      refine ifSet (fun N n => ?_) (fun y => ?_)
      · refine ⟨.ref g.d, rfl, g.d, _, 1, _, rfl, rfl, SqL.of hd1, rfl, .ref g.c, cs.length, rfl, .inl ⟨_, SqL.of hc1, (List.length_map ..).symm⟩, (cs.length : Int), 0, rfl, rfl, _, rfl, ite2 (fun e => ?_) (fun e => n 0)⟩
        have e : 0 < cs.length := by have := of_decide_eq_true e; omega
        refine ⟨.ref g.d, rfl, g.d, _, 1, _, rfl, rfl, SqL.of hd1, rfl, .ref g.d, rfl, g.d, _, 3, _, rfl, rfl, SqL.of hd1, rfl, .ref g.d, rfl, g.d, _, 1, _, rfl, rfl, SqL.of hd1, rfl, .ref g.c, cs.length, rfl, .inl ⟨_, SqL.of hc1, (List.length_map ..).symm⟩, t1, (cs.length : Int), rfl, rfl, by omega, fun sp esp sp0 sp1 => ?_⟩
        obtain ⟨cv, hcv, cm, _⟩ := atI_in (xs := cs.map V.int) (i := sp) sp0 (by rw [List.length_map]; exact sp1)
        obtain ⟨y, _, rfl⟩ := List.mem_map.mp cm
        exact ⟨g.c, _, sp, _, rfl, rfl, SqL.of hc1, hcv, n y⟩
      have htt0 : 0 ≤ t1 * t1 := Int.mul_nonneg (by omega) (by omega)
      have htt1 : t1 * t1 ≤ 10000000000000000000 * 10000000000000000000 := Int.mul_le_mul (by omega) (by omega) (by omega) (by decide)
      refine ⟨.int y, rfl, y, 2147483629, rfl, rfl, by decide, fun y1 ey1 y10 y11 => ⟨.ref g.d, rfl, g.d, _, 3, _, rfl, rfl, SqL.of hd1, rfl, .ref g.d, rfl, g.d, _, 3, _, rfl, rfl, SqL.of hd1, rfl, t1, t1, rfl, rfl, .inl ⟨by omega, by omega⟩, fun u1 eu1 => ⟨u1, 1, rfl, rfl, fun u2 eu2 => ⟨y1, u2, rfl, rfl, .inl ⟨by omega, by omega⟩, fun ce ece => ?_⟩⟩⟩⟩
      refine ⟨.ref g.d, rfl, g.d, _, 2, _, rfl, rfl, SqL.of hd1, rfl, a, 48271, rfl, rfl, .inl ⟨by omega, by omega⟩, fun v1 ev1 => ⟨.int ce, rfl, v1, ce, rfl, rfl, fun v2 ev2 => ⟨.ref g.d, rfl, g.d, _, 3, _, rfl, rfl, SqL.of hd1, rfl, 97, t1, rfl, rfl, .inl ⟨by decide, by decide⟩, fun v3 ev3 => ⟨v2, v3, rfl, rfl, fun v4 ev4 => ⟨v4, 2147483647, rfl, rfl, by decide, fun a2 ea2 a20 a21 => ?_⟩⟩⟩⟩⟩
      refine ⟨.ref g.d, rfl, g.d, _, 2, 2, rfl, rfl, hd1, rfl, fun H2 eH2 => ?_⟩
      have eH2 : H2 = upd H1 g.d (.lst [.ref g.r, .ref g.c, .int a2, .int t1]) := eH2
      have hd2 : H2 g.d = some (.lst [.ref g.r, .ref g.c, .int a2, .int t1]) := by rw [eH2]; exact upd_same
      have hc2 : H2 g.c = some (.lst (cs.map V.int)) := by rw [eH2, upd_ne D.dc.symm]; exact hc1
      have hg2 : H2 g.r = some (.lst (gs.map V.int)) := by rw [eH2, upd_ne D.dr.symm]; exact hg1
      have K2 : Kp g H H2 := fun p o h1 h2 e => by rw [eH2, upd_ne h1]; exact K1 p o h1 h2 e
      refine ⟨.ref g.d, rfl, g.d, _, 2, _, rfl, rfl, SqL.of hd2, rfl, a2, 5, rfl, rfl, by decide, by decide, by omega, fun w1 ew1 => ⟨w1, 2147483629, rfl, rfl, by decide, fun w2 ew2 w20 w21 => ⟨w2, 64, rfl, rfl, wide_div (b := 7) (by decide) (by decide) (by decide) (by decide), fun w3 ew3 => ⟨.int b, rfl, w3, b, rfl, rfl, hb0, fun v ev v0 v1 => ?_⟩⟩⟩⟩
      exact q v _ v0 v1 ⟨t1, ⟨⟨a2, hd2, a20, a21⟩, ⟨cs, hc2, ec⟩, ⟨gs, hg2, eg⟩, D.dc, D.dr, D.cr, by omega⟩, by omega⟩ K2
def spOne (K : PySem.W.Frag) : Sp := fun vs H Q _ => ∃ (g : Gd) (B : Nat) (x : V), vs = [.ref g.d, x] ∧ Fu g B H ∧ 1 ≤ B ∧
  ((∃ p xs, x = .ref p ∧ g.Off p ∧ H p = some (.lst xs) ∧ 0 < xs.length ∧ xs.length ≤ 1000000 ∧ ∀ v H', v ∈ xs → Fu g (B - 1) H' → Kp g H H' → Q v H') ∨
   (∃ p xs, x = .ref p ∧ H p = some (.tup xs) ∧ 0 < xs.length ∧ xs.length ≤ 1000000 ∧ ∀ v H', v ∈ xs → Fu g (B - 1) H' → Kp g H H' → Q v H') ∨
   (∃ p o xs, x = .ref p ∧ H p = some (.frz o (.tup xs)) ∧ 0 < xs.length ∧ xs.length ≤ 1000000 ∧ ∀ v H', v ∈ xs → Fu g (B - 1) H' → Kp g H H' → Q v H'))
theorem Fu.fz {g : Gd} {B : Nat} {H H' : Hp} {p : Addr} {o : Obj} {u : HO} (h : Fu g B H) (k : Kp g H H') (e : H p = some (.frz o u)) : H' p = some (.frz o u) := by
  obtain ⟨t, a, b⟩ := h
  obtain ⟨sd, hd, _⟩ := a.hd
  obtain ⟨rs, hr, _⟩ := a.hr
  exact k p _ (fun z => by rw [z, hd] at e; cases e) (fun z => by rw [z, hr] at e; cases e) e
theorem ok_any {f : Addr} {fd : FuncData} (F : Fun K "_law_any" "_law_any" s_law_any f fd) (m_len : mg "len" = none) (C__law_draw : Cl P w K mg base 1 "_law_draw" ["_law_pool_here", "_law_many"] spNext) : FnOk P w K mg base CX0 2 f fd ["_law_pool_here", "_law_some"] (spOne K) := by
  refine F.ok sc_law_any (fun vs H Q E h => ?_) (fun cdv A outer s H vs Q E hr h => ?_)
  · obtain ⟨g, B, x, rfl, _⟩ := h
    rfl
  · obtain ⟨g, B, x, rfl, hF, hB, h⟩ := h
    refine ⟨_, (pss_one (ps_ret (pe_ix ix_seq (pv 1) (pe_cl C__law_draw (hr.mono (by omega)) (by rfl) (pa_cons (pv 0) (pa_cons (pe_callB call_len (by rfl) m_len (by decide +kernel) (pa_cons (pv 1) pa_nil)) pa_nil))) (fun _ _ => rfl)))), ?_⟩
    rcases h with ⟨p, xs, rfl, oP, hp, h0, h1, q⟩ | ⟨p, xs, rfl, hp, h0, h1, q⟩ | ⟨p, o, xs, rfl, hp, h0, h1, q⟩
    · refine ⟨.ref p, rfl, .ref g.d, rfl, .ref p, rfl, .ref p, xs.length, rfl, .inl ⟨_, SqL.of hp, rfl⟩, g, B, (xs.length : Int), rfl, hF, hB, by omega, by omega, fun i H' i0 i1 F' K' => .inl ?_⟩
      obtain ⟨v, hv, vm, _⟩ := atI_in (xs := xs) i0 i1
      exact ⟨p, xs, i, v, rfl, rfl, SqL.of (K'.off oP hp), hv, q v H' vm F' K'⟩
    · refine ⟨.ref p, rfl, .ref g.d, rfl, .ref p, rfl, .ref p, xs.length, rfl, .inr ⟨_, SqT.of hp, rfl⟩, g, B, (xs.length : Int), rfl, hF, hB, by omega, by omega, fun i H' i0 i1 F' K' => .inr (.inl ?_)⟩
      obtain ⟨v, hv, vm, _⟩ := atI_in (xs := xs) i0 i1
      exact ⟨p, xs, i, v, rfl, rfl, SqT.of (hF.tk K' p xs hp), hv, q v H' vm F' K'⟩
    · refine ⟨.ref p, rfl, .ref g.d, rfl, .ref p, rfl, .ref p, xs.length, rfl, .inr ⟨_, SqT.frz hp, rfl⟩, g, B, (xs.length : Int), rfl, hF, hB, by omega, by omega, fun i H' i0 i1 F' K' => .inr (.inl ?_)⟩
      obtain ⟨v, hv, vm, _⟩ := atI_in (xs := xs) i0 i1
      exact ⟨p, xs, i, v, rfl, rfl, SqT.frz (hF.fz K' hp), hv, q v H' vm F' K'⟩
end
end Rt
namespace Dl
open PySem PySem.Spec PyProof.Rows L2 Rt

theorem isi_int (d : D) : isTy "int" d = some (.bool (match d with | .int _ => true | .bool _ => true | _ => false)) := by
  cases d <;> (unfold isTy tyN; first | rw [show kitB "NoneType" "int" = some false by decide +kernel] | rw [show kitB "bool" "int" = some true by decide +kernel] | rw [show kitB "int" "int" = some true by decide +kernel] | rw [show kitB "str" "int" = some false by decide +kernel] | rw [show kitB "list" "int" = some false by decide +kernel] | rw [show kitB "tuple" "int" = some false by decide +kernel] | rw [show kitB "dict" "int" = some false by decide +kernel]) <;> rfl
theorem isi_bool (d : D) : isTy "bool" d = some (.bool (match d with | .bool _ => true | _ => false)) := by
  cases d <;> (unfold isTy tyN; first | rw [show kitB "NoneType" "bool" = some false by decide +kernel] | rw [show kitB "bool" "bool" = some true by decide +kernel] | rw [show kitB "int" "bool" = some false by decide +kernel] | rw [show kitB "str" "bool" = some false by decide +kernel] | rw [show kitB "list" "bool" = some false by decide +kernel] | rw [show kitB "tuple" "bool" = some false by decide +kernel] | rw [show kitB "dict" "bool" = some false by decide +kernel]) <;> rfl
theorem isi_tuple (d : D) : isTy "tuple" d = some (.bool (match d with | .tuple _ => true | _ => false)) := by
  cases d <;> (unfold isTy tyN; first | rw [show kitB "NoneType" "tuple" = some false by decide +kernel] | rw [show kitB "bool" "tuple" = some false by decide +kernel] | rw [show kitB "int" "tuple" = some false by decide +kernel] | rw [show kitB "str" "tuple" = some false by decide +kernel] | rw [show kitB "list" "tuple" = some false by decide +kernel] | rw [show kitB "tuple" "tuple" = some true by decide +kernel] | rw [show kitB "dict" "tuple" = some false by decide +kernel]) <;> rfl
theorem isi_str (d : D) : isTy "str" d = some (.bool (match d with | .str _ => true | _ => false)) := by
  cases d <;> (unfold isTy tyN; first | rw [show kitB "NoneType" "str" = some false by decide +kernel] | rw [show kitB "bool" "str" = some false by decide +kernel] | rw [show kitB "int" "str" = some false by decide +kernel] | rw [show kitB "str" "str" = some true by decide +kernel] | rw [show kitB "list" "str" = some false by decide +kernel] | rw [show kitB "tuple" "str" = some false by decide +kernel] | rw [show kitB "dict" "str" = some false by decide +kernel]) <;> rfl
/-! ### what the values are -/
def isNum : D → Bool
  | .int _ => true
  | _ => false
def isFrom (lo hi : Int) : D → Bool
  | .int i => decide (lo ≤ i) && decide (i ≤ hi)
  | _ => false
def isRow (lo hi : Int) : D → Bool
  | .tuple ds => decide (lo ≤ ds.length) && decide ((ds.length : Int) ≤ hi)
  | _ => false
def sNum : List D → Option D
  | [d] => some (.bool (isNum d))
  | _ => none
def sFrom : List D → Option D
  | [d, .int lo, .int hi] => some (.bool (isFrom lo hi d))
  | _ => none
def sRow : List D → Option D
  | [d, .int lo, .int hi] => some (.bool (isRow lo hi d))
  | _ => none
section
variable {P : Program} {w : World} {K : PySem.W.Frag} {mg : Str → Option Value} {base : Heap}
theorem ok_num {f : Addr} {fd : FuncData} (F : Fun K "is_number" "is_number" s_is_number f fd) (m_isinstance : mg "isinstance" = none) (m_int : mg "int" = none) (m_bool : mg "bool" = none) : FnOk P w K mg base CX0 1 f fd ["thing"] (spD 1 sNum) := by
  refine okFn F sc_is_number rfl fun cdv A outer s H E hr => ⟨_, (dSs_one (dS_ret (ps_ret (dE_and (dE_isi (dE_var (μ := true) (pv 0)) (pe_bltn (v := .ty "int") (by rfl) m_int (by decide +kernel) rfl) (by rfl) m_isinstance (by decide +kernel)) (dE_one (dE_not (dE_isi (dE_var (μ := true) (pv 0)) (pe_bltn (v := .ty "bool") (by rfl) m_bool (by decide +kernel) rfl) (by rfl) m_isinstance (by decide +kernel)))))))), fun ds d l e => ?_⟩
  match ds, e with
  | [x], e =>
    cases e
    refine ⟨.rt (.bool (isNum x)), ?_, rfl⟩
    simp only [startR, sRet, eAnd, eNot, e1, eVar, isi_int, isi_bool]
    cases x <;> rfl
theorem ok_from {f : Addr} {fd : FuncData} (F : Fun K "is_number_from" "is_number_from" s_is_number_from f fd) (C_is_number : Cl P w K mg base 1 "is_number" ["thing"] (spD 1 sNum)) : FnOk P w K mg base CX0 2 f fd ["thing", "low", "high"] (spD 3 sFrom) := by
  refine okFn F sc_is_number_from rfl fun cdv A outer s H E hr => ⟨_, (dSs_one (dS_ret (ps_ret (dE_and (dE_cl C_is_number (hr.mono (by omega)) (by rfl) (dA_cons (dE_var (μ := true) (pv 0)) (dA_nil (μ := true)))) (dE_one (dE_chain o_le o_le (dE_var (μ := true) (pv 1)) (dE_var (μ := true) (pv 0)) (dE_var (μ := true) (pv 2)))))))), fun ds d l e => ?_⟩
  match ds, e with
  | [x, .int lo, .int hi], e =>
    cases e
    refine ⟨.rt (.bool (isFrom lo hi x)), ?_, rfl⟩
    cases x <;> try rfl
    rename_i i
    by_cases h : lo ≤ i <;> simp [startR, sRet, eAnd, eCall, gN, aCons, aNil, sNum, eVar, eChain, isNum, isFrom, leD, bB, h]
theorem ok_row {f : Addr} {fd : FuncData} (F : Fun K "is_row" "is_row" s_is_row f fd) (m_isinstance : mg "isinstance" = none) (m_tuple : mg "tuple" = none) (m_len : mg "len" = none) : FnOk P w K mg base CX0 1 f fd ["thing", "fewest", "most"] (spD 3 sRow) := by
  refine okFn F sc_is_row rfl fun cdv A outer s H E hr => ⟨_, (dSs_one (dS_ret (ps_ret (dE_and (dE_isi (dE_var (μ := true) (pv 0)) (pe_bltn (v := .ty "tuple") (by rfl) m_tuple (by decide +kernel) rfl) (by rfl) m_isinstance (by decide +kernel)) (dE_one (dE_chain o_le o_le (dE_var (μ := true) (pv 1)) (dE_callB c_len (by rfl) m_len (by decide +kernel) (dA_cons (dE_var (μ := true) (pv 0)) (dA_nil (μ := true)))) (dE_var (μ := true) (pv 2)))))))), fun ds d l e => ?_⟩
  match ds, e with
  | [x, .int lo, .int hi], e =>
    cases e
    refine ⟨.rt (.bool (isRow lo hi x)), ?_, rfl⟩
    simp only [startR, sRet, eAnd, e1, eVar, isi_tuple]
    cases x <;> try rfl
    rename_i xs
    by_cases h : lo ≤ xs.length <;> simp [isi_tuple, eChain, eCall, aCons, aNil, lenD, eVar, isRow, leD, bB, h]
end
end Dl
namespace Dl
open PySem PySem.Spec PyProof.Rows L2 Rt
theorem str_ne_no_dict (b : Str) (u : Tok) (l : Addr) (o : Obj) (es : Array DictEntry) (n : Nat) (hc : o.cls = .type "dict") (hd : o.data = .dict es n) : Meets (Builtin.«str.__ne__» { pos := [.str b u, .ref l] }) fun _ R s => s.heap.get? l = some o ∧ R (.ok (.ret .notImplemented)) s :=
  Meets.of_wp fun prog w A R s h => by
    obtain ⟨hp, g, d, tk, os⟩ := s
    obtain ⟨hl, h⟩ := h
    obtain ⟨cls, dd, dat, sl⟩ := o
    cases hc
    cases hd
    unfold Builtin.«str.__ne__»
    refine wpAny_bind (wpAny_bind ?_)
    unfold slotArgs
    refine wpAny_ite_false rfl (wpAny_ite_false rfl (wpAny_pure (wpAny_bind ?_)))
    unfold Builtin.Str.textOf
    refine wpAny_bind (wpAny_pure (wpAny_pure (wpAny_pure (wpAny_bind ?_))))
    unfold asStr?
    refine wpAny_bind (wpAny_load hl (wpAny_pure (wpAny_bind (wpAny_rule (wpAny_pure ⟨_, rfl, h⟩)))))
theorem dict_ne_no {x : Value} {T : String} (hT : isSubtype (.type T) (.type "dict") = pure false) (l : Addr) : Meets (Builtin.«dict.__ne__» { pos := [.ref l, x] }) fun _ R s => s.TypeIs x T ∧ R (.ok (.ret .notImplemented)) s :=
  Meets.of_wp fun prog w A R s h => by
    obtain ⟨hl, h⟩ := h
    unfold Builtin.«dict.__ne__»
    refine wpAny_bind ?_
    unfold Builtin.Dict.dictSlotArgs
    refine wpAny_bind ?_
    unfold Builtin.Dict.notOrdered
    refine wpAny_ite_false rfl (wpAny_pure (wpAny_bind ?_))
    unfold slotArgs
    refine wpAny_ite_false rfl (wpAny_ite_false rfl (wpAny_pure (wpAny_pure (wpAny_bind ?_))))
    unfold isInstance
    refine wpAny_bind (wpAny_typeOf hl (wpAny_of_eq hT (wpAny_ite_true rfl (wpAny_bind (wpAny_rule (wpAny_pure ⟨_, rfl, h⟩))))))
theorem rcNe_dic_str {A : Around} {s : Shared} {l : Addr} {o : Obj} {es : Array DictEntry} {n : Nat} (i : Str) (t : Tok) (h : IsDic s l o es n) (hu : A.units < cLine) : SeqAt.RcNeAt A s (.ref l) (.str i t) true := fun prog w E Q hQ =>
  SeqAt.rc_ne_decline_or (k := false) h.ty (typeIs_str s i t) (by decide) sub_str_dict F.slot_dict_ne F.slot_str_ne_refl
    (fun _ hq => call_meets F.slot_dict_ne h.ty F.entry_dict_ne (F.args_dict_ne_2 _ _) (dict_ne_no sub_str_dict l) ⟨(typeIs_str s i t), hq⟩)
    (fun _ hq => call_meets F.slot_str_ne_refl (typeIs_str s i t) F.entry_str_ne (F.args_str_ne_2 _ _) (str_ne_no_dict i t l o es n h.cls h.dat) ⟨h.get, hq⟩)
    (fun _ hq => wpAny_of_eq rfl hq) (.inr hu) hQ
theorem rcNe_any_str {A : Around} {s : Shared} {x : Value} {d : D} {as : List Addr} (b : Str) (u : Tok) (r : Reads s.heap x d as) (hu : A.units < cLine) : SeqAt.RcNeAt A s x (.str b u) (!PyData.eqv d (.str b)) := by
  cases r with
  | none => exact SeqAt.RcNeAt.none_str b u
  | bool c => exact SeqAt.RcNeAt.bool_str c b u
  | int c t => exact SeqAt.RcNeAt.int_str c t b u
  | str c t => exact SeqAt.RcNeAt.str_str c t b u
  | list g c e _ => exact SeqAt.RcNeAt.list_str b u ⟨_, g, c, _, e⟩ hu
  | tuple g c e _ => exact SeqAt.RcNeAt.tuple_str b u ⟨_, g, c, _, e⟩ hu
  | dict g c e _ _ => exact rcNe_dic_str b u ⟨g, c, e⟩ hu
section
variable {X : Cx}
/-- anything != a text; else as neD -/
def neQ : D → D → Option D
  | a, .str b => some (.bool (!PyData.eqv a (.str b)))
  | a, b => neD a b
theorem o_neQ (hu : X.A.units + 64 < cLine) : OpR X (compareOp .NotEq) (rD neQ) := by
  intro pn s σ H x y v u Q I rx ry h
  obtain ⟨M, a, b, d, dm, ra, rb, e, q⟩ := h
  by_cases hb : ∃ z, b = .str z
  · obtain ⟨z, rfl⟩ := hb
    cases rb
    have e : some (PyData.bool (!PyData.eqv a (.str z))) = some d := by cases a <;> exact e
    cases e
    obtain ⟨t, rfl⟩ := ry
    obtain ⟨as, r1⟩ := Rp.reads I ra rx
    exact rcNe_any_str z t r1 (by omega) _ _ _ _ ⟨.bl _, H, I, rfl, q _ _ (Same.refl _) (.bl _)⟩
  · refine o_ne hu pn s σ H _ _ v u Q I rx ry ⟨M, a, b, d, dm, ra, rb, ?_, q⟩
    cases b <;> first | exact (hb ⟨_, rfl⟩).elim | (cases a <;> exact e)
end
end Dl
namespace Dl
open PySem PySem.Spec PyProof.Rows L2 Rt
/-! ### the least and the greatest of a list, a list in its order -/
def leastI : List Int → Option Int
  | [] => none
  | x :: xs => some (xs.foldl (fun a b => if b < a then b else a) x)
def mostI : List Int → Option Int
  | [] => none
  | x :: xs => some (xs.foldl (fun a b => if b > a then b else a) x)
theorem foldl_least : ∀ (xs : List Int) (x m : Int), m ∈ x :: xs → (∀ y ∈ x :: xs, m ≤ y) → xs.foldl (fun a b => if b < a then b else a) x = m
  | [], x, m, h, _ => (List.mem_singleton.mp h).symm
  | y :: xs, x, m, h, hl => by
    show xs.foldl _ (if y < x then y else x) = m
    have h1 := hl x (by simp)
    have h2 := hl y (by simp)
    refine foldl_least xs _ m ?_ fun z hz => ?_
    · rcases List.mem_cons.mp h with rfl | h
      · rw [if_neg (by omega)]; exact List.mem_cons_self
      · rcases List.mem_cons.mp h with rfl | h
        · by_cases e : m < x
          · rw [if_pos e]; exact List.mem_cons_self
          · have : x = m := by omega
            rw [if_neg e, this]; exact List.mem_cons_self
        · exact List.mem_cons_of_mem _ h
    · rcases List.mem_cons.mp hz with rfl | hz
      · split <;> omega
      · exact hl z (by simp [hz])
theorem foldl_most : ∀ (xs : List Int) (x m : Int), m ∈ x :: xs → (∀ y ∈ x :: xs, y ≤ m) → xs.foldl (fun a b => if b > a then b else a) x = m
  | [], x, m, h, _ => (List.mem_singleton.mp h).symm
  | y :: xs, x, m, h, hl => by
    show xs.foldl _ (if y > x then y else x) = m
    have h1 := hl x (by simp)
    have h2 := hl y (by simp)
    refine foldl_most xs _ m ?_ fun z hz => ?_
    · rcases List.mem_cons.mp h with rfl | h
      · rw [if_neg (by omega)]; exact List.mem_cons_self
      · rcases List.mem_cons.mp h with rfl | h
        · by_cases e : m > x
          · rw [if_pos e]; exact List.mem_cons_self
          · have : x = m := by omega
            rw [if_neg e, this]; exact List.mem_cons_self
        · exact List.mem_cons_of_mem _ h
    · rcases List.mem_cons.mp hz with rfl | hz
      · split <;> omega
      · exact hl z (by simp [hz])
def minLD : List D → Option D
  | [.list ds] => ((intsD ds).bind leastI).map .int
  | _ => none
def maxLD : List D → Option D
  | [.list ds] => ((intsD ds).bind mostI).map .int
  | _ => none
section
variable {X : Cx}
theorem c_minL (hc : X.calm = true) : CallR X (.builtin "min") (rC minLD) := by
  intro pn s σ H xs us Q I r h
  obtain ⟨M, ds, d, dm, ra, e, q⟩ := h
  match ds, ra, e with
  | [.list ds], .cons (.lst t n l rr) .nil, e =>
    obtain ⟨m, em, rfl⟩ := some_map (show ((intsD ds).bind leastI).map PyData.int = some d from e)
    obtain ⟨ns, en, em⟩ := some_bind em
    have hv := rr.ints en
    subst hv
    refine cr_min hc pn s σ H _ us Q I r ⟨_, ns, rfl, SqL.of t, ?_, fun m' hm hl => ?_⟩
    · cases ns with
      | nil => cases em
      | cons _ _ => simp
    · have : m' = m := by
        cases ns with
        | nil => cases em
        | cons x xs =>
          have e2 := foldl_least xs x m' hm hl
          have em : some (xs.foldl (fun a b => if b < a then b else a) x) = some m := em
          rw [e2] at em
          cases em
          rfl
      subst this
      exact q _ _ (Same.refl _) (.int _)
theorem c_maxL (hc : X.calm = true) : CallR X (.builtin "max") (rC maxLD) := by
  intro pn s σ H xs us Q I r h
  obtain ⟨M, ds, d, dm, ra, e, q⟩ := h
  match ds, ra, e with
  | [.list ds], .cons (.lst t n l rr) .nil, e =>
    obtain ⟨m, em, rfl⟩ := some_map (show ((intsD ds).bind mostI).map PyData.int = some d from e)
    obtain ⟨ns, en, em⟩ := some_bind em
    have hv := rr.ints en
    subst hv
    refine cr_max hc pn s σ H _ us Q I r ⟨_, ns, rfl, SqL.of t, ?_, fun m' hm hl => ?_⟩
    · cases ns with
      | nil => cases em
      | cons _ _ => simp
    · have : m' = m := by
        cases ns with
        | nil => cases em
        | cons x xs =>
          have e2 := foldl_most xs x m' hm hl
          have em : some (xs.foldl (fun a b => if b > a then b else a) x) = some m := em
          rw [e2] at em
          cases em
          rfl
      subst this
      exact q _ _ (Same.refl _) (.int _)
/-- sorted, the least first -/
def sortA (ns : List Int) : List Int := ns.mergeSort fun a b => decide (a ≤ b)
theorem sortA_perm (ns : List Int) : (sortA ns).Perm ns := List.mergeSort_perm ns _
theorem sortA_pw (ns : List Int) : (sortA ns).Pairwise (· ≤ ·) := by
  have := List.pairwise_mergeSort (le := fun a b : Int => decide (a ≤ b)) (fun a b c h1 h2 => by simp at *; omega) (fun a b => by simp; omega) ns
  exact this.imp fun h => by simpa using h
theorem pw_uniqA : ∀ {a b : List Int}, a.Perm b → a.Pairwise (· ≤ ·) → b.Pairwise (· ≤ ·) → a = b
  | [], b, p, _, _ => (List.nil_perm.mp p).symm
  | x :: a, [], p, _, _ => absurd p.length_eq (by simp)
  | x :: a, y :: b, p, ha, hb => by
    have h1 := List.pairwise_cons.mp ha
    have h2 := List.pairwise_cons.mp hb
    have e : x = y := by
      have m1 : x ∈ y :: b := p.mem_iff.mp List.mem_cons_self
      have m2 : y ∈ x :: a := p.mem_iff.mpr List.mem_cons_self
      rcases List.mem_cons.mp m1 with e | m1
      · exact e
      · rcases List.mem_cons.mp m2 with e | m2
        · exact e.symm
        · have := h1.1 y m2
          have := h2.1 x m1
          omega
    subst e
    rw [pw_uniqA ((List.perm_cons _).mp p) h1.2 h2.2]
def sorAD : List D → Option D
  | [.list ds] => (intsD ds).bind fun ns => if ns.length < 64 then some (.list ((sortA ns).map .int)) else none
  | _ => none
theorem ints_rpA {M : Addr → Prop} {H : Hp} : ∀ ns : List Int, RpAll M H (ns.map V.int) (ns.map PyData.int)
  | [] => .nil
  | n :: ns => .cons (.int n) (ints_rpA ns)
theorem c_sorA : CallR X (.builtin "sorted") (rC sorAD) := by
  intro pn s σ H xs us Q I r h
  obtain ⟨M, ds, d, dm, ra, e, q⟩ := h
  match ds, ra, e with
  | [.list ds], .cons (.lst t n l rr) .nil, e =>
    obtain ⟨ns, en, e⟩ := some_bind (show (intsD ds).bind _ = some d from e)
    obtain ⟨l2, rfl⟩ := iteS e
    have hv := rr.ints en
    subst hv
    refine cr_sorted pn s σ H _ us Q I r ⟨_, ns, rfl, SqL.of t, l2, fun ns' p pm pw np => ?_⟩
    have : ns' = sortA ns := pw_uniqA (pm.trans (sortA_perm ns).symm) pw (sortA_pw ns)
    subst this
    exact q _ _ (smN np) (.lst upd_same (dm.not np) (by rw [List.length_map, (sortA_perm ns).length_eq]; exact small64 l2) (ints_rpA _))
end
end Dl
namespace Dl
open PySem PySem.Spec PyProof.Rows L2 Rt
/-! ### t.index(z), the least and the greatest of a tuple -/
def strsD : List D → Option (List Str)
  | [] => some []
  | .str z :: ds => (strsD ds).map (z :: ·)
  | _ :: _ => none
def firstI (z : Str) : List Str → Option Nat
  | [] => none
  | y :: ys => if y = z then some 0 else (firstI z ys).map (· + 1)
def idxD : D → D → Option D
  | .tuple ds, .str z => (strsD ds).bind fun zs => (firstI z zs).map fun j => .int (j : Nat)
  | _, _ => none
theorem firstI.spec {z : Str} : ∀ {ys : List Str} {j : Nat}, firstI z ys = some j → ys[j]? = some z ∧ ∀ m, m < j → ys[m]? ≠ some z
  | [], _, h => nomatch h
  | y :: ys, j, h => by
    unfold firstI at h
    by_cases e : y = z
    · rw [if_pos e] at h
      cases h
      exact ⟨by rw [e]; rfl, fun m h => absurd h (Nat.not_lt_zero _)⟩
    · rw [if_neg e] at h
      obtain ⟨k, hk, rfl⟩ := some_map h
      have ih := firstI.spec hk
      refine ⟨ih.1, fun m hm => ?_⟩
      cases m with
      | zero => intro c; cases c; exact e rfl
      | succ m => exact ih.2 m (by omega)
theorem strsD.map (zs : List Str) : strsD (zs.map PyData.str) = some zs := by
  induction zs with
  | nil => rfl
  | cons z zs ih =>
    show (strsD (zs.map PyData.str)).map _ = _
    rw [ih]
    rfl
theorem firstI.has {z : Str} : ∀ {ys : List Str}, z ∈ ys → ∃ j, firstI z ys = some j ∧ j < ys.length
  | y :: ys, h => by
    unfold firstI
    by_cases e : y = z
    · exact ⟨0, if_pos e, by simp⟩
    · rw [if_neg e]
      rcases List.mem_cons.mp h with h | h
      · exact absurd h.symm e
      · obtain ⟨j, hj, l⟩ := firstI.has h
        exact ⟨j + 1, by rw [hj]; rfl, by rw [List.length_cons]; omega⟩
theorem RpAll.strs {M : Addr → Prop} {H : Hp} : ∀ {vs : List V} {ds : List D} {zs : List Str}, RpAll M H vs ds → strsD ds = some zs → vs = zs.map V.str
  | _, _, _, .nil, h => by cases h; rfl
  | _, _, _, .cons (d := d) r rr, h => by
    cases r <;> try (cases h; done)
    rename_i x hx
    obtain ⟨zs, hz, rfl⟩ := some_map (show (strsD _).map _ = _ from h)
    rw [rr.strs hz]
    rfl
section
variable {X : Cx}
theorem dE_idx {ob e : Expr} {apos cpos : Pos} {f1 f2 : EF} {μ : Bool} (ho : PE X ob (tD μ f1)) (ha : PE X e (tD μ f2))
    (hbase : attributeBase ob "index" X.env (eval ob X.env) = eval ob X.env := by rfl)
    (hfew : ((backTo cpos (starEach [e] X.env)).all (fun x => !x.1) && (backToKw cpos (keywordEach [] X.env)).all (fun x => x.1.isSome) && decide (([e] : List Expr).length + ([] : List Keyword).length + (if ([] : List Keyword).isEmpty then 0 else 1) < 30)) = true := by rfl)
    (hline : (apos.endLine == cpos.line) = true := by rfl) (hs : starEach [e] X.env = (false, eval e X.env) :: starEach [] X.env := by rfl) (hplain : (backTo cpos (starEach [] X.env)).any (·.1) = false := by rfl) :
    PE X (.Call (.Attribute ob "index" apos) [e] [] cpos) (tD μ (e2 idxD f1 f2)) := (pe_idxF ho (dA_cons ha dA_nil hs) hbase hfew hline hs hplain).wk fun σ H Q q => by
  obtain ⟨M0, H0, ρ, d, R, e, q⟩ := q
  obtain ⟨a, ea, e⟩ := some_bind e
  obtain ⟨b, eb, e⟩ := some_bind e
  refine ⟨M0, H0, ρ, a, R, ea, fun x H1 s1 r1 => ?_⟩
  match a, b, e, r1 with
  | .tuple ds, .str z, e, .tup t n l r =>
    obtain ⟨zs, ez, e⟩ := some_bind (show (strsD ds).bind _ = some d from e)
    obtain ⟨j, hj, rfl⟩ := some_map e
    have ev := r.strs ez
    subst ev
    obtain ⟨o, ho, od⟩ := t
    refine ⟨_, o, zs, rfl, ho, od, M0, H0, ρ, [.str z], R.mono s1, ?_, fun vs H2 s2 r2 => ?_⟩
    · show (f2 ρ).bind _ = _
      rw [eb]
      rfl
    · match vs, r2 with
      | [_], .cons (.str _ _) .nil =>
        exact ⟨z, j, rfl, SqT.frz (s2 _ _ ho), (firstI.spec hj).1, (firstI.spec hj).2, q _ _ (s1.trans s2) (.int _)⟩
def minTD : List D → Option D
  | [.tuple ds] => ((intsD ds).bind leastI).map .int
  | _ => none
def maxTD : List D → Option D
  | [.tuple ds] => ((intsD ds).bind mostI).map .int
  | _ => none
theorem c_minT (hc : X.calm = true) (hu : X.A.units + 64 < cLine) : CallR X (.builtin "min") (rC minTD) := by
  intro pn s σ H xs us Q I r h
  obtain ⟨M, ds, d, dm, ra, e, q⟩ := h
  match ds, ra, e with
  | [.tuple ds], .cons (.tup t n l rr) .nil, e =>
    obtain ⟨m, em, rfl⟩ := some_map (show ((intsD ds).bind leastI).map PyData.int = some d from e)
    obtain ⟨ns, en, em⟩ := some_bind em
    have hv := rr.ints en
    subst hv
    refine cr_minT hc hu pn s σ H _ us Q I r ⟨_, ns, rfl, t.sq, ?_, fun m' hm hl => ?_⟩
    · cases ns with
      | nil => cases em
      | cons _ _ => simp
    · have : m' = m := by
        cases ns with
        | nil => cases em
        | cons x xs =>
          have e2 := foldl_least xs x m' hm hl
          have em : some (xs.foldl (fun a b => if b < a then b else a) x) = some m := em
          rw [e2] at em
          cases em
          rfl
      subst this
      exact q _ _ (Same.refl _) (.int _)
theorem c_maxT (hc : X.calm = true) (hu : X.A.units + 64 < cLine) : CallR X (.builtin "max") (rC maxTD) := by
  intro pn s σ H xs us Q I r h
  obtain ⟨M, ds, d, dm, ra, e, q⟩ := h
  match ds, ra, e with
  | [.tuple ds], .cons (.tup t n l rr) .nil, e =>
    obtain ⟨m, em, rfl⟩ := some_map (show ((intsD ds).bind mostI).map PyData.int = some d from e)
    obtain ⟨ns, en, em⟩ := some_bind em
    have hv := rr.ints en
    subst hv
    refine cr_maxT hc hu pn s σ H _ us Q I r ⟨_, ns, rfl, t.sq, ?_, fun m' hm hl => ?_⟩
    · cases ns with
      | nil => cases em
      | cons _ _ => simp
    · have : m' = m := by
        cases ns with
        | nil => cases em
        | cons x xs =>
          have e2 := foldl_most xs x m' hm hl
          have em : some (xs.foldl (fun a b => if b > a then b else a) x) = some m := em
          rw [e2] at em
          cases em
          rfl
      subst this
      exact q _ _ (Same.refl _) (.int _)
theorem intsD.map (ns : List Int) : intsD (ns.map PyData.int) = some ns := by
  induction ns with
  | nil => rfl
  | cons n ns ih =>
    show (intsD (ns.map PyData.int)).map _ = _
    rw [ih]
    rfl
/-! a, b, c = x, y, z -/
def sPar3 (i j k : Nat) (f : Rho → Option (List D)) : Rho → Option Out := fun ρ => (f ρ).bind fun ds => match ds with
  | [a, b, c] => some (.nx (((ρ.set i (some (.dat a))).set j (some (.dat b))).set k (some (.dat c))))
  | _ => none
theorem dS_par3 {st : Stmt} {i j k : Nat} {f : Rho → Option (List D)} (h : PS X st (tPar3 i j k (tA true f))) : PS X st (tS (sPar3 i j k f)) := h.wk fun Dn σ H q => by
  obtain ⟨M0, H0, ρ, o, R, e, q⟩ := tS_iff.mp q
  obtain ⟨ds, ed, e⟩ := some_bind e
  refine ⟨M0, H0, ρ, ds, R, ed, fun vs H1 s1 r1 => ?_⟩
  match ds, vs, r1, e with
  | [a, b, c], [v, w, u], .cons ra (.cons rb (.cons rc .nil)), e =>
    cases e
    have sh : ∀ a', Mu true M0 (σ.set i (some v)) (ρ.set i (some (.dat a))) a' → Mu true M0 σ ρ a' := Mu.shrink fun ds e => by cases e
    have R1 := (R.mono s1).set (i := i) ra
    have R2 := R1.set (i := j) (rb.reM fun a m => .inl (sh a m))
    have sh2 : ∀ a', Mu true M0 ((σ.set i (some v)).set j (some w)) ((ρ.set i (some (.dat a))).set j (some (.dat b))) a' → Mu true M0 σ ρ a' := fun p m => sh p (Mu.shrink (fun ds e => by cases e) p m)
    have R3 := R2.set (i := k) (rc.reM fun a m => .inl (sh2 a m))
    refine ⟨v, w, u, rfl, q _ _ R3 ((Stp.of s1).trans ⟨.refl, fun p m => .inl (sh2 p (Mu.shrink (fun ds e => by cases e) p m))⟩)⟩
theorem ev_par3 {i j k : Nat} {f : Rho → Option (List D)} {g : Rho → Option Out} {ρ : Rho} {a b c : D} (h : f ρ = some [a, b, c]) : sSeq (sPar3 i j k f) g ρ = g (((ρ.set i (some (.dat a))).set j (some (.dat b))).set k (some (.dat c))) := by
  unfold sSeq sPar3
  rw [h]
  rfl
end
end Dl
namespace Dl
open PySem PySem.Spec PyProof.Rows L2 Rt
/-! ### worlds and tables, told as Lean data -/
structure Sr where
  k : Str
  a : Int
  p : Int
  s : Int
  m : Int
structure Pt where
  k : Str
  l : Int
  g : Int
structure Wy where
  k : Str
  ps : List Pt
  kp : Str
  hs : List Int
  w : Int
structure Wd where
  n : Int
  ks : List Str
  ss : List Sr
  ws : List Wy
abbrev Tb := List (List (List (Option Int)))
def Sr.d (x : Sr) : D := .tuple [.str x.k, .int x.a, .int x.p, .int x.s, .int x.m]
def Pt.d (x : Pt) : D := .tuple [.str x.k, .int x.l, .int x.g]
def Wy.d (x : Wy) : D := .tuple [.str x.k, .tuple (x.ps.map Pt.d), .str x.kp, .tuple (x.hs.map .int), .int x.w]
def Wd.d (x : Wd) : D := .tuple [.int x.n, .tuple (x.ks.map .str), .tuple (x.ss.map Sr.d), .tuple (x.ws.map Wy.d)]
def celD : Option Int → D
  | none => .none
  | some i => .int i
def stD (s : List (Option Int)) : D := .tuple (s.map celD)
def rwD (r : List (List (Option Int))) : D := .tuple (r.map stD)
def tbD (t : Tb) : D := .tuple (t.map rwD)
structure Sr.ok (n : Int) (ks : List Str) (x : Sr) : Prop where
  k : x.k ∈ ks
  a0 : 0 ≤ x.a
  a1 : x.a ≤ 20
  p0 : 0 ≤ x.p
  p1 : x.p < n
  s0 : 0 ≤ x.s
  s1 : x.s ≤ 1000000
  m0 : 0 ≤ x.m
  m1 : x.m ≤ 9
structure Pt.ok (ks : List Str) (x : Pt) : Prop where
  k : x.k ∈ ks
  l0 : 0 ≤ x.l
  lg : x.l ≤ x.g
  g1 : x.g ≤ 20
structure Wy.ok (n : Int) (ks : List Str) (x : Wy) : Prop where
  k : x.k ∈ ks
  ps : ∀ p ∈ x.ps, p.ok ks
  p1 : 1 ≤ x.ps.length
  p3 : x.ps.length ≤ 3
  kp : x.kp = Str.ofString "oldest" ∨ x.kp = Str.ofString "youngest"
  hs : ∀ h ∈ x.hs, 0 ≤ h ∧ h < n
  hl : x.hs.length ≤ 6
  w0 : 1 ≤ x.w
  w1 : x.w ≤ 6
structure Wd.ok (x : Wd) : Prop where
  n1 : 1 ≤ x.n
  n6 : x.n ≤ 6
  k1 : 1 ≤ x.ks.length
  k4 : x.ks.length ≤ 4
  ks : ∀ z ∈ x.ks, PyData.strOk z = true ∧ z.length ≤ 20
  sl : x.ss.length ≤ 6
  ss : ∀ s ∈ x.ss, s.ok x.n x.ks
  wl : x.ws.length ≤ 8
  ws : ∀ w ∈ x.ws, w.ok x.n x.ks
structure tbOk (X : Wd) (t : Tb) : Prop where
  l : t.length = X.ks.length
  r : ∀ r ∈ t, r.length = X.n.toNat
  s : ∀ r ∈ t, ∀ s ∈ r, s.length = 27
  c : ∀ r ∈ t, ∀ s ∈ r, ∀ i, some i ∈ s → i.natAbs ≤ 4000000000000000
/-! each is told by its data -/
theorem map_inj {α : Type} {f : α → D} (h : ∀ {x y}, f x = f y → x = y) : ∀ {a b : List α}, a.map f = b.map f → a = b
  | [], [], _ => rfl
  | [], _ :: _, e => nomatch e
  | _ :: _, [], e => nomatch e
  | x :: a, y :: b, e => by
    have e := List.cons.inj (show f x :: a.map f = f y :: b.map f from e)
    rw [h e.1, map_inj h e.2]
theorem tup_inj {α : Type} {f : α → D} (h : ∀ {x y}, f x = f y → x = y) {a b : List α} (e : PyData.tuple (a.map f) = .tuple (b.map f)) : a = b := by
  injection e with e
  exact map_inj h e
theorem int_i {a b : Int} (h : PyData.int a = .int b) : a = b := by cases h; rfl
theorem str_i {a b : Str} (h : PyData.str a = .str b) : a = b := by cases h; rfl
theorem Sr.inj {x y : Sr} (h : x.d = y.d) : x = y := by
  cases x; cases y; cases h; rfl
theorem Pt.inj {x y : Pt} (h : x.d = y.d) : x = y := by
  cases x; cases y; cases h; rfl
theorem celD.inj {x y : Option Int} (h : celD x = celD y) : x = y := by
  cases x <;> cases y <;> cases h <;> rfl
theorem stD.inj {x y : List (Option Int)} (h : stD x = stD y) : x = y := tup_inj celD.inj h
theorem rwD.inj {x y : List (List (Option Int))} (h : rwD x = rwD y) : x = y := tup_inj stD.inj h
theorem tbD.inj {x y : Tb} (h : tbD x = tbD y) : x = y := tup_inj rwD.inj h
theorem Wy.inj {x y : Wy} (h : x.d = y.d) : x = y := by
  cases x with
  | mk k ps kp hs w =>
    cases y with
    | mk k' ps' kp' hs' w' =>
      have h : PyData.tuple [.str k, .tuple (ps.map Pt.d), .str kp, .tuple (hs.map .int), .int w] = .tuple [.str k', .tuple (ps'.map Pt.d), .str kp', .tuple (hs'.map .int), .int w'] := h
      injection h with h
      injection h with h1 h
      injection h with h2 h
      injection h with h3 h
      injection h with h4 h
      injection h with h5 h
      cases str_i h1
      cases str_i h3
      cases int_i h5
      cases tup_inj Pt.inj h2
      cases tup_inj int_i h4
      rfl
theorem Wd.inj {x y : Wd} (h : x.d = y.d) : x = y := by
  cases x with
  | mk n ks ss ws =>
    cases y with
    | mk n' ks' ss' ws' =>
      have h : PyData.tuple [.int n, .tuple (ks.map .str), .tuple (ss.map Sr.d), .tuple (ws.map Wy.d)] = .tuple [.int n', .tuple (ks'.map .str), .tuple (ss'.map Sr.d), .tuple (ws'.map Wy.d)] := h
      injection h with h
      injection h with h1 h
      injection h with h2 h
      injection h with h3 h
      injection h with h4 h
      cases int_i h1
      cases tup_inj str_i h2
      cases tup_inj Sr.inj h3
      cases tup_inj Wy.inj h4
      rfl
/-! a function of data, told of what the data tell -/
structure Sem (α : Type) where
  enc : α → List D
  ok : α → Prop
  out : α → D
  fn : ∀ {x y}, ok x → ok y → enc x = enc y → out x = out y
noncomputable def Sem.f {α : Type} (S : Sem α) : List D → Option D := fun ds => @dite _ (∃ x, S.ok x ∧ S.enc x = ds) (Classical.propDecidable _) (fun h => some (S.out h.choose)) (fun _ => none)
theorem Sem.of {α : Type} {S : Sem α} {x : α} (h : S.ok x) : S.f (S.enc x) = some (S.out x) := by
  unfold Sem.f
  rw [dif_pos ⟨x, h, rfl⟩]
  congr 1
  have z : ∃ y, S.ok y ∧ S.enc y = S.enc x := ⟨x, h, rfl⟩
  exact S.fn z.choose_spec.1 h z.choose_spec.2
theorem Sem.get {α : Type} {S : Sem α} {ds : List D} {d : D} (h : S.f ds = some d) : ∃ x, S.ok x ∧ ds = S.enc x ∧ d = S.out x := by
  unfold Sem.f at h
  by_cases e : ∃ x, S.ok x ∧ S.enc x = ds
  · rw [dif_pos e] at h
    cases h
    exact ⟨_, e.choose_spec.1, e.choose_spec.2.symm, rfl⟩
  · rw [dif_neg e] at h
    cases h
theorem nat_i {a b : Nat} (h : PyData.int (a : Nat) = .int (b : Nat)) : a = b := by
  injection h with h
  omega
/-! ### what a table tells -/
def celQ (X : Wd) (t : Tb) (k : Str) (p a : Int) : Option (Option Int) := (firstI k X.ks).bind fun j => (t[j]?).bind fun r => (r[(p % X.n).toNat]?).bind fun s => s[(if 26 < a then 26 else a).toNat]?
def cl (X : Wd) (t : Tb) (k : Str) (p a : Int) : Option Int := (celQ X t k p a).getD none
def hasC (X : Wd) (t : Tb) (k : Str) (o a : Int) : Bool := match cl X t k o a with
  | none => false
  | some i => decide (i ≤ o)
def fstC (X : Wd) (t : Tb) (k : Str) (p a : Int) : Option Int := (cl X t k (p - a) a).map fun i => if p > i + a then p else i + a
theorem at_map {α : Type} {f : α → D} {xs : List α} {j : Nat} {x : α} (h : xs[j]? = some x) : L2.atI (xs.map f) (j : Int) = some (f x) := atI_nat (by rw [List.getElem?_map, h]; rfl)
theorem ev_cell {X : Wd} {t : Tb} {k : Str} {p a : Int} {fT fK fk fP fA : EF} {ρ : Rho} (hX : X.ok) (ht : tbOk X t) (hk : k ∈ X.ks) (h0 : 0 ≤ a) (eT : fT ρ = some (tbD t)) (eK : fK ρ = some (.tuple (X.ks.map .str))) (ek : fk ρ = some (.str k)) (eP : fP ρ = some (.int (p % X.n))) (eA : fA ρ = some (.int (if 26 < a then 26 else a))) : e2 ixD (e2 ixD (e2 ixD fT (e2 idxD fK fk)) fP) fA ρ = some (celD (cl X t k p a)) := by
  obtain ⟨j, hj, jl⟩ := firstI.has hk
  have n1 := hX.n1
  have n6 := hX.n6
  have q0 := Int.emod_nonneg p (show X.n ≠ 0 by omega)
  have q1 := Int.emod_lt_of_pos p (show 0 < X.n by omega)
  have jl : j < t.length := by rw [ht.l]; exact jl
  obtain ⟨r, hr⟩ : ∃ r, t[j]? = some r := ⟨_, List.getElem?_eq_getElem jl⟩
  have rm := List.mem_of_getElem? hr
  have rl := ht.r r rm
  obtain ⟨s, hs⟩ : ∃ s, r[(p % X.n).toNat]? = some s := ⟨_, List.getElem?_eq_getElem (by omega)⟩
  have sm := List.mem_of_getElem? hs
  have sl := ht.s r rm s sm
  obtain ⟨c, hc⟩ : ∃ c, s[(if 26 < a then 26 else a).toNat]? = some c := ⟨_, List.getElem?_eq_getElem (by split <;> omega)⟩
  have e : cl X t k p a = c := by
    unfold cl celQ
    rw [hj]
    show ((t[j]?).bind _).getD none = c
    rw [hr]
    show ((r[(p % X.n).toNat]?).bind _).getD none = c
    rw [hs]
    show (s[(if 26 < a then 26 else a).toNat]?).getD none = c
    rw [hc]
    rfl
  rw [e]
  refine ev_e2 (a := stD s) (b := .int (if 26 < a then 26 else a)) (ev_e2 (a := rwD r) (b := .int (p % X.n)) (ev_e2 (a := tbD t) (b := .int j) eT (ev_e2 (a := .tuple (X.ks.map .str)) (b := .str k) eK ek ?_) (at_map hr)) eP ?_) eA ?_
  · show (strsD (X.ks.map .str)).bind _ = _
    rw [strsD.map]
    show (firstI k X.ks).map _ = _
    rw [hj]
    rfl
  · have := at_map (f := stD) hs
    rw [show (((p % X.n).toNat : Nat) : Int) = p % X.n by omega] at this
    exact this
  · have := at_map (f := celD) hc
    rw [show (((if 26 < a then 26 else a).toNat : Nat) : Int) = if 26 < a then 26 else a by split <;> omega] at this
    exact this
theorem ev_eIf {c : Rho → Option Bool} {f g : EF} {ρ : Rho} {b : Bool} {d : D} (hc : c ρ = some b) (h : (if b = true then f ρ else g ρ) = some d) : eIf c f g ρ = some d := by
  unfold eIf
  rw [hc]
  exact h
/-! ### the promises -/
def sPlace : List D → Option D
  | [.tuple (.int n :: _), .int i] => if 0 < n then some (.int (i % n)) else none
  | _ => none
def SFst : Sem (Wd × Nat × Sr) where
  enc := fun (X, j, _) => [X.d, .int (j : Nat)]
  ok := fun (X, j, r) => X.ok ∧ X.ss[j]? = some r
  out := fun (X, _, r) => .int (r.s + (r.p - r.s) % X.n)
  fn := fun {x y} hx hy e => by
    obtain ⟨X, j, r⟩ := x
    obtain ⟨X', j', r'⟩ := y
    injection e with e1 e
    injection e with e2 e
    cases Wd.inj e1
    cases nat_i e2
    cases hx.2.symm.trans hy.2
    rfl
def SBea : Sem (Wd × Nat × Wy × Int × List Int × Int) where
  enc := fun (X, j, _, t, os, _) => [X.d, .int (j : Nat), .int t, .list (os.map .int)]
  ok := fun (X, j, y, t, os, o) => X.ok ∧ X.ws[j]? = some y ∧ (if y.kp = Str.ofString "oldest" then leastI os else mostI os) = some o
  out := fun (X, _, y, t, os, o) => .tuple [.int o, .int (t + y.w)]
  fn := fun {x y} hx hy e => by
    obtain ⟨X, j, r, t, os, o⟩ := x
    obtain ⟨X', j', r', t', os', o'⟩ := y
    injection e with e1 e
    injection e with e2 e
    injection e with e3 e
    injection e with e4 e
    injection e4 with e4
    cases Wd.inj e1
    cases nat_i e2
    cases int_i e3
    cases map_inj int_i e4
    cases hx.2.1.symm.trans hy.2.1
    cases hx.2.2.symm.trans hy.2.2
    rfl
theorem inj5 {X X' : Wd} {t t' : Tb} {k k' : Str} {o o' a a' : Int} (e : [X.d, tbD t, .str k, .int o, .int a] = [X'.d, tbD t', .str k', .int o', .int a']) : X = X' ∧ t = t' ∧ k = k' ∧ o = o' ∧ a = a' := by
  injection e with e1 e
  injection e with e2 e
  injection e with e3 e
  injection e with e4 e
  injection e with e5 e
  exact ⟨Wd.inj e1, tbD.inj e2, str_i e3, int_i e4, int_i e5⟩
def S5 (g : Wd → Tb → Str → Int → Int → D) : Sem (Wd × Tb × Str × Int × Int) where
  enc := fun (X, t, k, o, a) => [X.d, tbD t, .str k, .int o, .int a]
  ok := fun (X, t, k, o, a) => X.ok ∧ tbOk X t ∧ k ∈ X.ks ∧ 0 ≤ a
  out := fun (X, t, k, o, a) => g X t k o a
  fn := fun {x y} _ _ e => by
    obtain ⟨X, t, k, o, a⟩ := x
    obtain ⟨X', t', k', o', a'⟩ := y
    obtain ⟨rfl, rfl, rfl, rfl, rfl⟩ := inj5 e
    rfl
def SHas : Sem (Wd × Tb × Str × Int × Int) := S5 fun X t k o a => .bool (hasC X t k o a)
def SThr : Sem (Wd × Tb × Str × Int × Int) := S5 fun X t k p a => celD (fstC X t k p a)
def SStd : Sem (Wd × Tb × Str × Int × Int) := S5 fun X t k p a => celD (cl X t k p a)
section
variable {P : Program} {w : World} {K : PySem.W.Frag} {mg : Str → Option Value} {base : Heap}
theorem ok_place {f : Addr} {fd : FuncData} (F : Fun K "place_of" "place_of" s_place_of f fd) : FnOk P w K mg base CX0 1 f fd ["world", "number"] (spD 2 sPlace) := by
  refine okFn F sc_place_of rfl fun cdv A outer s H E hr => ⟨_, (dSs_one (dS_ret (ps_ret (dE_op o_mod (dE_var (μ := true) (pv 1)) (dE_ix (dE_var (μ := true) (pv 0)) (dE_c (μ := true) pe_int)))))), fun ds d l e => ?_⟩
  match ds, e with
  | [.tuple (.int n :: r), .int i], e =>
    obtain ⟨h, rfl⟩ := iteS e
    exact ⟨.rt (.int (i % n)), ev_ret (ev_e2 (a := .int i) (b := .int n) rfl (ev_e2 (a := .tuple (.int n :: r)) (b := .int 0) rfl rfl (atI_nat (j := 0) rfl)) (if_pos h)), rfl⟩
theorem place_ok {X : Wd} {i : Int} (h : X.ok) : sPlace [X.d, .int i] = some (.int (i % X.n)) := if_pos (by have := h.n1; omega)
theorem ok_first {f : Addr} {fd : FuncData} (F : Fun K "first_of" "first_of" s_first_of f fd) (C_place_of : Cl P w K mg base 1 "place_of" ["world", "number"] (spD 2 sPlace)) : FnOk P w K mg base CX0 2 f fd ["world", "source"] (spD 2 SFst.f) := by
  refine okFn F sc_first_of rfl fun cdv A outer s H E hr => ⟨_, (dSs_cons (dS_asg (K := K) (p := (.tp (.cons (.nm 2) (.cons (.nm 3) (.cons (.nm 4) (.cons (.nm 5) (.cons (.nm 6) .nil))))))) (ps_asg (dE_ix (dE_ix (dE_var (μ := true) (pv 0)) (dE_c (μ := true) pe_int)) (dE_var (μ := true) (pv 1))) (pg_tup (by rfl) (pgs_cons (pg_name (i := 2) sc_first_of.nd rfl (.inl rfl)) (pgs_cons (pg_name (i := 3) sc_first_of.nd rfl (.inl rfl)) (pgs_cons (pg_name (i := 4) sc_first_of.nd rfl (.inl rfl)) (pgs_cons (pg_name (i := 5) sc_first_of.nd rfl (.inl rfl)) (pgs_cons (pg_name (i := 6) sc_first_of.nd rfl (.inl rfl)) pgs_nil))))))))
  (dSs_one (dS_ret (ps_ret (dE_op o_add (dE_var (μ := true) (pv 5)) (dE_cl C_place_of (hr.mono (by omega)) (by rfl) (dA_cons (dE_var (μ := true) (pv 0)) (dA_cons (dE_op o_sub (dE_var (μ := true) (pv 4)) (dE_var (μ := true) (pv 5))) (dA_nil (μ := true)))))))))), fun ds d l e => ?_⟩
  obtain ⟨⟨X, j, r⟩, ⟨hX, g⟩, rfl, rfl⟩ := Sem.get e
  refine ⟨.rt (.int (r.s + (r.p - r.s) % X.n)), ?_, rfl⟩
  refine (ev_asg (d := r.d) (ρ' := [some (.dat X.d), some (.dat (.int j)), some (.dat (.str r.k)), some (.dat (.int r.a)), some (.dat (.int r.p)), some (.dat (.int r.s)), some (.dat (.int r.m))]) (ev_e2 (a := .tuple (X.ss.map Sr.d)) (b := .int j) rfl rfl (at_map g)) rfl).trans ?_
  exact ev_ret (ev_e2 (a := .int r.s) (b := .int ((r.p - r.s) % X.n)) rfl (ev_call rfl rfl (place_ok hX)) rfl)
theorem ok_bears {f : Addr} {fd : FuncData} (F : Fun K "bears" "bears" s_bears f fd) (m_min : mg "min" = none) (m_max : mg "max" = none) : FnOk P w K mg base CX0 1 f fd ["world", "way", "moment", "origins"] (spD 4 SBea.f) := by
  refine okFn F sc_bears rfl fun cdv A outer s H E hr => ⟨_, (dSs_cons (dS_asg (K := K) (p := (.tp (.cons (.nm 4) (.cons (.nm 5) (.cons (.nm 6) (.cons (.nm 7) (.cons (.nm 8) .nil))))))) (ps_asg (dE_ix (dE_ix (dE_var (μ := true) (pv 0)) (dE_c (μ := true) pe_int)) (dE_var (μ := true) (pv 1))) (pg_tup (by rfl) (pgs_cons (pg_name (i := 4) sc_bears.nd rfl (.inl rfl)) (pgs_cons (pg_name (i := 5) sc_bears.nd rfl (.inl rfl)) (pgs_cons (pg_name (i := 6) sc_bears.nd rfl (.inl rfl)) (pgs_cons (pg_name (i := 7) sc_bears.nd rfl (.inl rfl)) (pgs_cons (pg_name (i := 8) sc_bears.nd rfl (.inl rfl)) pgs_nil))))))))
  (dSs_cons (dS_asg (K := K) (p := .nm 9) (ps_set (i := 9) sc_bears.nd rfl (.inl rfl) (dE_if (dT_cmp (o_eq hr.units) (dE_var (μ := true) (pv 6)) (dE_c (μ := true) pe_str) (nomark _)) (dE_callB (c_minL rfl) (by rfl) m_min (by decide +kernel) (dA_cons (dE_var (μ := true) (pv 3)) (dA_nil (μ := true)))) (dE_callB (c_maxL rfl) (by rfl) m_max (by decide +kernel) (dA_cons (dE_var (μ := true) (pv 3)) (dA_nil (μ := true)))))))
  (dSs_one (dS_ret (ps_ret (dE_tup (dA_cons (dE_var (μ := true) (pv 9)) (dA_cons (dE_op o_add (dE_var (μ := true) (pv 2)) (dE_var (μ := true) (pv 8))) (dA_nil (μ := true)))))))))), fun ds d l e => ?_⟩
  obtain ⟨⟨X, j, y, t, os, o⟩, ⟨hX, g, ho⟩, rfl, rfl⟩ := Sem.get e
  refine ⟨.rt (.tuple [.int o, .int (t + y.w)]), ?_, rfl⟩
  let R : Option LV → Rho := fun z => [some (.dat X.d), some (.dat (.int j)), some (.dat (.int t)), some (.dat (.list (os.map .int))), some (.dat (.str y.k)), some (.dat (.tuple (y.ps.map Pt.d))), some (.dat (.str y.kp)), some (.dat (.tuple (y.hs.map .int))), some (.dat (.int y.w)), z]
  refine (ev_asg (d := y.d) (ρ' := R none) (ev_e2 (a := .tuple (X.ws.map Wy.d)) (b := .int j) rfl rfl (at_map g)) rfl).trans ?_
  have hy := hX.ws y (List.mem_of_getElem? g)
  have e1 : minLD [.list (os.map .int)] = (leastI os).map .int := by
    show ((intsD (os.map PyData.int)).bind leastI).map _ = _
    rw [intsD.map]
    rfl
  have e2 : maxLD [.list (os.map .int)] = (mostI os).map .int := by
    show ((intsD (os.map PyData.int)).bind mostI).map _ = _
    rw [intsD.map]
    rfl
  have ek : ∀ z, y.kp = z → PyData.strOk z = true → Dl.eqD (.str y.kp) (.str (Str.ofString "oldest")) = some (.bool (PyData.eqv (.str z) (.str (Str.ofString "oldest")))) := fun z hz h => by
    rw [hz]
    exact eq_ok (by show (true && (PyData.strOk z && true)) = true; rw [h]; rfl) (by decide +kernel)
  refine (ev_asg (d := .int o) (ρ' := R (some (.dat (.int o)))) ?_ rfl).trans rfl
  rcases hy.kp with hk | hk
  · rw [if_pos hk] at ho
    refine ev_eIf (b := true) (ev_oB ((ev_e2 (a := .str y.kp) (b := .str (Str.ofString "oldest")) rfl rfl (ek _ hk (by decide +kernel))).trans (congrArg (fun b => some (PyData.bool b)) (by decide +kernel)))) ?_
    show minLD [.list (os.map .int)] = _
    rw [e1, ho]
    rfl
  · rw [hk, if_neg (by decide +kernel)] at ho
    refine ev_eIf (b := false) (ev_oB ((ev_e2 (a := .str y.kp) (b := .str (Str.ofString "oldest")) rfl rfl (ek _ hk (by decide +kernel))).trans (congrArg (fun b => some (PyData.bool b)) (by decide +kernel)))) ?_
    show maxLD [.list (os.map .int)] = _
    rw [e2, ho]
    rfl
theorem ok_has {f : Addr} {fd : FuncData} {t1 : Tok} (F : Fun K "has" "has" s_has f fd) (m_min : mg "min" = none) (g_READY : mg "READY" = some (.int 26 t1)) (C_place_of : Cl P w K mg base 1 "place_of" ["world", "number"] (spD 2 sPlace)) : FnOk P w K mg base CX0 2 f fd ["world", "table", "kind", "origin", "age"] (spD 5 SHas.f) := by
  refine okFn F sc_has rfl fun cdv A outer s H E hr => ⟨_, (dSs_cons (dS_if (dT_cmp o_lt (dE_var (μ := true) (pv 4)) (dE_c (μ := true) pe_int) (nomark _))
    (dSs_one (dS_ret (ps_ret (dE_c (μ := true) pe_bl))))
    dSs_nil)
  (dSs_cons (dS_asg (K := K) (p := .nm 5) (ps_set (i := 5) sc_has.nd rfl (.inl rfl) (dE_ix (dE_ix (dE_ix (dE_var (μ := true) (pv 1)) (dE_idx (dE_ix (dE_var (μ := true) (pv 0)) (dE_c (μ := true) pe_int)) (dE_var (μ := true) (pv 2)))) (dE_cl C_place_of (hr.mono (by omega)) (by rfl) (dA_cons (dE_var (μ := true) (pv 0)) (dA_cons (dE_var (μ := true) (pv 3)) (dA_nil (μ := true)))))) (dE_callB (c_min2 rfl) (by rfl) m_min (by decide +kernel) (dA_cons (dE_var (μ := true) (pv 4)) (dA_cons (dE_c (μ := true) (pe_glob (v := .int 26) (by rfl) g_READY ⟨_, rfl⟩)) (dA_nil (μ := true))))))))
  (dSs_one (dS_ret (ps_ret (dE_and (dE_cmp o_isnot (dE_var (μ := true) (pv 5)) (dE_c (μ := true) pe_non) (nomark _)) (dE_one (dE_cmp o_le (dE_var (μ := true) (pv 5)) (dE_var (μ := true) (pv 3)) (nomark _))))))))), fun ds d l e => ?_⟩
  obtain ⟨⟨X, t, k, o, a⟩, ⟨hX, ht, hk, h0⟩, rfl, rfl⟩ := Sem.get e
  refine ⟨.rt (.bool (hasC X t k o a)), ?_, rfl⟩
  refine (ev_guard (b := false) (by exact ev_oB (ev_e2 (a := .int a) (b := .int 0) rfl rfl (congrArg (fun b => some (PyData.bool b)) (decide_eq_false (by omega))))) rfl).trans ?_
  refine (ev_asg (d := celD (cl X t k o a)) (ρ' := [some (.dat X.d), some (.dat (tbD t)), some (.dat (.str k)), some (.dat (.int o)), some (.dat (.int a)), some (.dat (celD (cl X t k o a)))]) (ev_cell hX ht hk h0 rfl rfl rfl (ev_call rfl rfl (place_ok hX)) rfl) rfl).trans ?_
  refine ev_ret ?_
  unfold hasC
  cases cl X t k o a <;> rfl
theorem ok_there {f : Addr} {fd : FuncData} {t1 : Tok} (F : Fun K "first_there" "first_there" s_first_there f fd) (m_min : mg "min" = none) (m_max : mg "max" = none) (g_READY : mg "READY" = some (.int 26 t1)) (C_place_of : Cl P w K mg base 1 "place_of" ["world", "number"] (spD 2 sPlace)) : FnOk P w K mg base CX0 2 f fd ["world", "table", "kind", "place", "age"] (spD 5 SThr.f) := by
  refine okFn F sc_first_there rfl fun cdv A outer s H E hr => ⟨_, (dSs_cons (dS_asg (K := K) (p := .nm 5) (ps_set (i := 5) sc_first_there.nd rfl (.inl rfl) (dE_ix (dE_ix (dE_ix (dE_var (μ := true) (pv 1)) (dE_idx (dE_ix (dE_var (μ := true) (pv 0)) (dE_c (μ := true) pe_int)) (dE_var (μ := true) (pv 2)))) (dE_cl C_place_of (hr.mono (by omega)) (by rfl) (dA_cons (dE_var (μ := true) (pv 0)) (dA_cons (dE_op o_sub (dE_var (μ := true) (pv 3)) (dE_var (μ := true) (pv 4))) (dA_nil (μ := true)))))) (dE_callB (c_min2 rfl) (by rfl) m_min (by decide +kernel) (dA_cons (dE_var (μ := true) (pv 4)) (dA_cons (dE_c (μ := true) (pe_glob (v := .int 26) (by rfl) g_READY ⟨_, rfl⟩)) (dA_nil (μ := true))))))))
  (dSs_one (dS_ret (ps_ret (dE_if (dT_cmp o_is (dE_var (μ := true) (pv 5)) (dE_c (μ := true) pe_non) (nomark _)) (dE_c (μ := true) pe_non) (dE_callB (c_max2 rfl) (by rfl) m_max (by decide +kernel) (dA_cons (dE_op o_add (dE_var (μ := true) (pv 5)) (dE_var (μ := true) (pv 4))) (dA_cons (dE_var (μ := true) (pv 3)) (dA_nil (μ := true)))))))))), fun ds d l e => ?_⟩
  obtain ⟨⟨X, t, k, o, a⟩, ⟨hX, ht, hk, h0⟩, rfl, rfl⟩ := Sem.get e
  refine ⟨.rt (celD (fstC X t k o a)), ?_, rfl⟩
  refine (ev_asg (d := celD (cl X t k (o - a) a)) (ρ' := [some (.dat X.d), some (.dat (tbD t)), some (.dat (.str k)), some (.dat (.int o)), some (.dat (.int a)), some (.dat (celD (cl X t k (o - a) a)))]) (ev_cell (p := o - a) hX ht hk h0 rfl rfl rfl (ev_call rfl rfl (place_ok hX)) rfl) rfl).trans ?_
  refine ev_ret ?_
  unfold fstC
  cases cl X t k (o - a) a <;> rfl
end
end Dl
namespace Dl
open PySem PySem.Spec PyProof.Rows L2 Rt
/-! ### leaks, told as Lean data -/
def mo (X : Wd) (t : Tb) (p : Int) : List Pt → List Int → Int → Option Int
  | q :: ps, a :: as, m => (cl X t q.k (p - a) a).bind fun i => mo X t p ps as (if i + a > m then i + a else m)
  | _, _, m => some m
def ownO (y : Wy) (as : List Int) : Option Int := if y.kp = Str.ofString "oldest" then mostI as else leastI as
def mdL (X : Wd) (t : Tb) (y : Wy) (p : Int) (as : List Int) : Bool := match mo X t p y.ps as p, ownO y as with
  | some m, some o => !hasC X t y.k (m - o) (o + y.w)
  | _, _ => false
def brL (X : Wd) (t : Tb) (r : Sr) : Bool := !hasC X t r.k (r.s + (r.p - r.s) % X.n - r.a) r.a
def chB (y : Wy) (p : Int) (ds : List D) : Bool := y.hs.any (· == p) && (decide (ds.length = y.ps.length) && (ds.zip y.ps).all fun z => isFrom z.2.l z.2.g z.1)
def chO (y : Wy) : D → D → Option (Int × List Int)
  | .int p, .tuple ds => if chB y p ds = true then (intsD ds).map fun as => (p, as) else none
  | _, _ => none
def brF (X : Wd) : D → Option (Nat × Sr)
  | .tuple [.str z, .int i] => if z = Str.ofString "brought" ∧ 0 ≤ i then (X.ss[i.toNat]?).map fun r => (i.toNat, r) else none
  | _ => none
def mdF (X : Wd) : D → Option (Nat × Wy × Int × List Int)
  | .tuple [.str z, .int i, pl, ag] => if z = Str.ofString "made" ∧ 0 ≤ i then (X.ws[i.toNat]?).bind fun y => (chO y pl ag).map fun q => (i.toNat, y, q.1, q.2) else none
  | _ => none
def leakB (X : Wd) (t : Tb) (d : D) : Bool := match brF X d with
  | some (_, r) => brL X t r
  | none => match mdF X d with
    | some (_, y, p, as) => mdL X t y p as
    | none => false
theorem row2 {d : D} (h : isRow 2 2 d = true) : ∃ a b, d = .tuple [a, b] := by
  obtain ⟨ds, rfl⟩ : ∃ ds, d = .tuple ds := by
    cases d <;> first | exact ⟨_, rfl⟩ | cases h
  have h := Bool.and_eq_true_iff.mp (show (decide ((2 : Int) ≤ ds.length) && decide ((ds.length : Int) ≤ 2)) = true from h)
  have h1 := of_decide_eq_true h.1
  have h2 := of_decide_eq_true h.2
  match ds, h1, h2 with
  | [], h1, _ => exact absurd h1 (by decide)
  | [_], h1, _ => exact absurd h1 (by simp only [List.length_cons, List.length_nil]; omega)
  | [a, b], _, _ => exact ⟨a, b, rfl⟩
  | _ :: _ :: _ :: r, _, h2 => exact absurd h2 (by simp only [List.length_cons]; omega)
theorem row4 {d : D} (h : isRow 4 4 d = true) : ∃ a b c e, d = .tuple [a, b, c, e] := by
  obtain ⟨ds, rfl⟩ : ∃ ds, d = .tuple ds := by
    cases d <;> first | exact ⟨_, rfl⟩ | cases h
  have h := Bool.and_eq_true_iff.mp (show (decide ((4 : Int) ≤ ds.length) && decide ((ds.length : Int) ≤ 4)) = true from h)
  have h1 := of_decide_eq_true h.1
  have h2 := of_decide_eq_true h.2
  match ds, h1, h2 with
  | [], h1, _ => exact absurd h1 (by decide)
  | [_], h1, _ => exact absurd h1 (by simp only [List.length_cons, List.length_nil]; omega)
  | [_, _], h1, _ => exact absurd h1 (by simp only [List.length_cons, List.length_nil]; omega)
  | [_, _, _], h1, _ => exact absurd h1 (by simp only [List.length_cons, List.length_nil]; omega)
  | [a, b, c, e], _, _ => exact ⟨a, b, c, e, rfl⟩
  | _ :: _ :: _ :: _ :: _ :: r, _, h2 => exact absurd h2 (by simp only [List.length_cons]; omega)
theorem brF_row {X : Wd} {d : D} (h : isRow 2 2 d = false) : brF X d = none := by
  unfold brF
  split
  · cases h
  · rfl
theorem mdF_row {X : Wd} {d : D} (h : isRow 4 4 d = false) : mdF X d = none := by
  unfold mdF
  split
  · cases h
  · rfl
/-- a comprehension, whatever its target -/
theorem ev_lcG {p : Pat} {f : EF} {ρ : Rho} {α : Type} {e t : α → D} : ∀ (xs : List α), (∀ x ∈ xs, ∃ ρ1, bindP p (e x) ρ = some ρ1 ∧ f ρ1 = some (t x)) → lcGo p oYes f ρ (xs.map e) = some (xs.map t)
  | [], _ => rfl
  | x :: xs, h => by
    obtain ⟨ρ1, e1, e2⟩ := h x (by simp)
    show (bindP p (e x) ρ).bind _ = _
    rw [e1]
    show (f ρ1).bind _ = _
    rw [e2]
    show (lcGo _ _ _ _ _).map _ = _
    rw [ev_lcG xs fun y hy => h y (by simp [hy])]
    rfl
theorem zp_map {α β : Type} {f : α → D} {g : β → D} : ∀ (as : List α) (bs : List β), zpGo (as.map f) (bs.map g) = (as.zip bs).map fun x => .tuple [f x.1, g x.2]
  | [], bs => by cases bs <;> rfl
  | a :: as, [] => rfl
  | a :: as, b :: bs => by
    show PyData.tuple [f a, g b] :: zpGo (as.map f) (bs.map g) = _
    rw [zp_map as bs]
    rfl
theorem zp_map1 {β : Type} {g : β → D} (as : List D) (bs : List β) : zpGo as (bs.map g) = (as.zip bs).map fun x => .tuple [x.1, g x.2] := by
  have := zp_map (f := id) (g := g) as bs
  rw [List.map_id] at this
  exact this
/-! moments and origins -/
theorem mo_eq {X : Wd} {t : Tb} {p : Int} : ∀ (ps : List Pt) (as : List Int) (m : Int), p ≤ m → (∃ ns : List Int, (ps.zip as).map (fun z => fstC X t z.1.k p z.2) = ns.map some ∧ mo X t p ps as m = some (ns.foldl (fun a b => if b > a then b else a) m) ∧ (∀ n ∈ ns, p ≤ n)) ∨ (none ∈ (ps.zip as).map (fun z => fstC X t z.1.k p z.2) ∧ mo X t p ps as m = none)
  | [], as, m, _ => .inl ⟨[], by simp, by unfold mo; rfl, fun n h => nomatch h⟩
  | q :: ps, [], m, _ => .inl ⟨[], by simp, by unfold mo; rfl, fun n h => nomatch h⟩
  | q :: ps, a :: as, m, hm => by
    cases hc : cl X t q.k (p - a) a with
    | none =>
      have e : fstC X t q.k p a = none := by unfold fstC; rw [hc]; rfl
      refine .inr ⟨?_, ?_⟩
      · show none ∈ fstC X t q.k p a :: _
        rw [e]
        exact List.mem_cons_self
      · show (cl X t q.k (p - a) a).bind _ = none
        rw [hc]
        rfl
    | some i =>
      have e : fstC X t q.k p a = some (if p > i + a then p else i + a) := by unfold fstC; rw [hc]; rfl
      have em : mo X t p (q :: ps) (a :: as) m = mo X t p ps as (if i + a > m then i + a else m) := by
        show (cl X t q.k (p - a) a).bind _ = _
        rw [hc]
        rfl
      rcases mo_eq (X := X) (t := t) (p := p) ps as (if i + a > m then i + a else m) (by split <;> omega) with ⟨ns, h1, h2, h3⟩ | ⟨h1, h2⟩
      · refine .inl ⟨(if p > i + a then p else i + a) :: ns, ?_, ?_, fun n hn => ?_⟩
        · show fstC X t q.k p a :: (ps.zip as).map _ = _
          rw [e, h1]
          rfl
        · rw [em, h2]
          show _ = some (ns.foldl _ (if (if p > i + a then p else i + a) > m then (if p > i + a then p else i + a) else m))
          congr 2
          split <;> split <;> (try split) <;> omega
        · rcases List.mem_cons.mp hn with rfl | hn
          · split <;> omega
          · exact h3 n hn
      · exact .inr ⟨List.mem_cons_of_mem _ h1, by rw [em, h2]⟩
theorem least_sub (m : Int) : ∀ (as : List Int) (x : Int), (as.map (fun a => m - a)).foldl (fun a b => if b < a then b else a) (m - x) = m - as.foldl (fun a b => if b > a then b else a) x
  | [], x => rfl
  | a :: as, x => by
    show (as.map (fun a => m - a)).foldl _ (if m - a < m - x then m - a else m - x) = m - as.foldl _ (if a > x then a else x)
    rw [← least_sub m as]
    congr 1
    split <;> split <;> omega
theorem most_sub (m : Int) : ∀ (as : List Int) (x : Int), (as.map (fun a => m - a)).foldl (fun a b => if b > a then b else a) (m - x) = m - as.foldl (fun a b => if b < a then b else a) x
  | [], x => rfl
  | a :: as, x => by
    show (as.map (fun a => m - a)).foldl _ (if m - a > m - x then m - a else m - x) = m - as.foldl _ (if a < x then a else x)
    rw [← most_sub m as]
    congr 1
    split <;> split <;> omega
theorem own_org {y : Wy} {as : List Int} {m o : Int} (h : ownO y as = some o) : (if y.kp = Str.ofString "oldest" then leastI (as.map fun a => m - a) else mostI (as.map fun a => m - a)) = some (m - o) := by
  unfold ownO at h
  cases as with
  | nil => split at h <;> cases h
  | cons a as =>
    split at h <;> rename_i hk
    · rw [if_pos hk]
      have h : some (as.foldl _ a) = some o := h
      cases h
      exact congrArg some (least_sub m as a)
    · rw [if_neg hk]
      have h : some (as.foldl _ a) = some o := h
      cases h
      exact congrArg some (most_sub m as a)
theorem own_ex {y : Wy} {as : List Int} (h : 0 < as.length) : ∃ o, ownO y as = some o := by
  unfold ownO
  cases as with
  | nil => cases h
  | cons a as => split <;> exact ⟨_, rfl⟩
theorem own_ge {y : Wy} {as : List Int} {o : Int} (h : ownO y as = some o) (h0 : ∀ a ∈ as, 0 ≤ a) : 0 ≤ o := by
  have mem : ∀ (c : Int → Int → Bool) (as : List Int) (x : Int), as.foldl (fun a b => if c b a = true then b else a) x ∈ x :: as := by
    intro c as
    induction as with
    | nil => intro x; exact List.mem_cons_self
    | cons a as ih =>
      intro x
      show as.foldl _ (if c a x = true then a else x) ∈ _
      have := ih (if c a x = true then a else x)
      rcases List.mem_cons.mp this with h | h
      · rw [h]; split <;> simp
      · exact List.mem_cons_of_mem _ (List.mem_cons_of_mem _ h)
  unfold ownO at h
  cases as with
  | nil => split at h <;> cases h
  | cons a as =>
    split at h
    · have h : some (as.foldl (fun a b => if b > a then b else a) a) = some o := h
      cases h
      have := mem (fun b a => decide (b > a)) as a
      simp only [decide_eq_true_eq] at this
      exact h0 _ this
    · have h : some (as.foldl (fun a b => if b < a then b else a) a) = some o := h
      cases h
      have := mem (fun b a => decide (b < a)) as a
      simp only [decide_eq_true_eq] at this
      exact h0 _ this
end Dl
namespace Dl
open PySem PySem.Spec PyProof.Rows L2 Rt
/-! ### while -/
def whGo (c : Rho → Option Bool) (body : Rho → Option Out) : Nat → Rho → Option Out
  | 0, _ => none
  | n + 1, ρ => (c ρ).bind fun b => if b = true then (body ρ).bind fun o => match o with
    | .nx ρ2 => whGo c body n ρ2
    | .ct ρ2 => whGo c body n ρ2
    | .bk ρ2 => some (.nx ρ2)
    | .rt d => some (.rt d) else some (.nx ρ)
theorem whGo_up {c : Rho → Option Bool} {body : Rho → Option Out} : ∀ {n m : Nat} {ρ : Rho} {o : Out}, n ≤ m → whGo c body n ρ = some o → whGo c body m ρ = some o
  | 0, _, _, _, _, h => nomatch h
  | n + 1, 0, _, _, hn, _ => absurd hn (Nat.not_succ_le_zero _)
  | n + 1, m + 1, ρ, o, hn, h => by
    unfold whGo at h ⊢
    obtain ⟨b, eb, h⟩ := some_bind h
    rw [eb]
    show (if b = true then _ else _) = _
    cases b with
    | false => exact h
    | true =>
      obtain ⟨o1, eo, h⟩ := some_bind (show (body ρ).bind _ = some o from h)
      show (body ρ).bind _ = _
      rw [eo]
      cases o1 with
      | nx ρ2 => exact whGo_up (Nat.le_of_succ_le_succ hn) h
      | ct ρ2 => exact whGo_up (Nat.le_of_succ_le_succ hn) h
      | bk ρ2 => exact h
      | rt d => exact h
noncomputable def sWh (c : Rho → Option Bool) (body : Rho → Option Out) : Rho → Option Out := fun ρ => @dite _ (∃ o n, whGo c body n ρ = some o) (Classical.propDecidable _) (fun h => some h.choose) (fun _ => none)
theorem sWh_of {c : Rho → Option Bool} {body : Rho → Option Out} {ρ : Rho} {o : Out} (n : Nat) (h : whGo c body n ρ = some o) : sWh c body ρ = some o := by
  unfold sWh
  have z : ∃ o n, whGo c body n ρ = some o := ⟨o, n, h⟩
  rw [dif_pos z]
  obtain ⟨m, hm⟩ := z.choose_spec
  have h1 := whGo_up (Nat.le_max_left n m) h
  have h2 := whGo_up (Nat.le_max_right n m) hm
  rw [h1] at h2
  rw [← Option.some.inj h2]
theorem sWh_get {c : Rho → Option Bool} {body : Rho → Option Out} {ρ : Rho} {o : Out} (h : sWh c body ρ = some o) : ∃ n, whGo c body n ρ = some o := by
  unfold sWh at h
  by_cases z : ∃ o n, whGo c body n ρ = some o
  · rw [dif_pos z] at h
    cases h
    exact z.choose_spec
  · rw [dif_neg z] at h
    cases h
section
variable {X : Cx} {K : PySem.W.Frag}
theorem dS_while {st : Stmt} {c : Rho → Option Bool} {body : Rho → Option Out} (h : PS X st (tWhile (tT c) (tS body))) : PS X st (tS (sWh c body)) := h.wk fun Dn σ H q => by
  obtain ⟨M0, H0, ρ, o, R, e, q⟩ := tS_iff.mp q
  obtain ⟨n, e⟩ := sWh_get e
  refine ⟨fun m σ' H' => ∃ ρ', Rs M0 H0 H' σ' ρ' ∧ Stp M0 σ ρ H σ' ρ' H' ∧ whGo c body m ρ' = some o, ⟨n, ρ, R, .refl, e⟩, ?_⟩
  rintro m σ' H' ⟨ρ', R', st, e⟩
  cases m with
  | zero => cases e
  | succ m =>
    unfold whGo at e
    obtain ⟨b, eb, e⟩ := some_bind e
    refine ⟨M0, H0, ρ', b, R', eb, fun H1 s1 => ?_⟩
    cases b with
    | false =>
      cases e
      exact q σ' H1 (R'.mono s1) (st.trans (.of s1))
    | true =>
      obtain ⟨o1, eo, e⟩ := some_bind (show (body ρ').bind _ = some o from e)
      refine ⟨fun σ3 H3 => ∃ ρ3, Rs M0 H0 H3 σ3 ρ3 ∧ Stp M0 σ ρ H σ3 ρ3 H3 ∧ whGo c body m ρ3 = some o, fun σ3 H3 h => ⟨m, Nat.lt_succ_self _, h⟩, tS_iff.mpr ⟨M0, H0, ρ', o1, R'.mono s1, eo, ?_⟩⟩
      have st1 := st.trans (Stp.of (σ := σ') (ρ := ρ') s1)
      cases o1 with
      | nx ρ2 => exact fun σ3 H3 R3 s3 => ⟨ρ2, R3, st1.trans s3, e⟩
      | ct ρ2 => exact fun σ3 H3 R3 s3 => ⟨ρ2, R3, st1.trans s3, e⟩
      | bk ρ2 => cases e; exact fun σ3 H3 R3 s3 => q σ3 H3 R3 (st1.trans s3)
      | rt d => cases e; exact q
def whN (c : WP Bool) (body : WP Out) : Nat → Rho → Nat → (Out → Nat → Prop) → Prop
  | 0, _, _, _ => False
  | n + 1, ρ, b, Q => c.w ρ b fun k b1 => if k = true then body.w ρ b1 fun o b2 => match o with
    | .nx ρ2 => whN c body n ρ2 b2 Q
    | .ct ρ2 => whN c body n ρ2 b2 Q
    | .bk ρ2 => Q (.nx ρ2) b2
    | .rt d => Q (.rt d) b2 else Q (.nx ρ) b1
theorem whN.mono {c : WP Bool} {body : WP Out} : ∀ {n : Nat} {ρ : Rho} {b : Nat} {P Q : Out → Nat → Prop}, (∀ o b, P o b → Q o b) → whN c body n ρ b P → whN c body n ρ b Q
  | 0, _, _, _, _, _, h => h.elim
  | n + 1, ρ, b, P, Q, hm, h => c.m (fun k b1 y => by
      cases k with
      | false => exact hm _ _ y
      | true => exact body.m (fun o b2 z => by
          cases o with
          | nx ρ2 => exact whN.mono hm z
          | ct ρ2 => exact whN.mono hm z
          | bk ρ2 => exact hm _ _ z
          | rt d => exact hm _ _ z) y) h
def swWh (c : WP Bool) (body : WP Out) : WP Out := ⟨fun ρ b Q => ∃ n, whN c body n ρ b Q, fun h ⟨n, z⟩ => ⟨n, whN.mono h z⟩⟩
theorem nS_while {st : Stmt} {c : WP Bool} {body : WP Out} (h : PS X st (tWhile (tnT c) (tSn body))) : PS X st (tSn (swWh c body)) := h.wk fun Dn σ H q => by
  obtain ⟨g, M0, H0, ρ, b, R, n, q⟩ := q
  refine ⟨fun m σ' H' => ∃ ρ' b', Rn g M0 H0 H' σ' ρ' b' ∧ Stp M0 σ ρ H σ' ρ' H' ∧ whN c body m ρ' b' fun o b2 => PostN g M0 H0 σ ρ H Dn o b2, ⟨n, ρ, b, R, .refl, q⟩, ?_⟩
  rintro m σ' H' ⟨ρ', b', R', st, e⟩
  cases m with
  | zero => exact e.elim
  | succ m =>
    refine ⟨g, M0, H0, ρ', b', R', c.m (fun k b1 e H1 k1 i1 => ?_) e⟩
    have R1 := R'.up k1 i1
    have st1 := st.trans (R'.stp k1)
    cases k with
    | false => exact (show PostN g M0 H0 σ ρ H Dn (.nx ρ') b1 from e) σ' H1 R1 st1
    | true =>
      refine ⟨fun σ3 H3 => ∃ ρ3 b3, Rn g M0 H0 H3 σ3 ρ3 b3 ∧ Stp M0 σ ρ H σ3 ρ3 H3 ∧ whN c body m ρ3 b3 fun o b2 => PostN g M0 H0 σ ρ H Dn o b2, fun σ3 H3 h => ⟨m, Nat.lt_succ_self _, h⟩, g, M0, H0, ρ', b1, R1, body.m (fun o b2 e => ?_) e⟩
      cases o with
      | nx ρ2 => exact fun σ3 H3 R3 s3 => ⟨ρ2, b2, R3, st1.trans s3, e⟩
      | ct ρ2 => exact fun σ3 H3 R3 s3 => ⟨ρ2, b2, R3, st1.trans s3, e⟩
      | bk ρ2 => exact fun σ3 H3 R3 s3 => (show PostN g M0 H0 σ ρ H Dn (.nx ρ2) b2 from e) σ3 H3 R3 (st1.trans s3)
      | rt d => exact e
/-! ### xs.remove(k) of a list of one's own -/
def swRem (i : Nat) (f : WP (List D)) : WP Out := ⟨fun ρ b Q => ∃ ns : List Int, ρ[i]? = some (some (.own (ns.map PyData.int))) ∧ f.w ρ b fun es b' => ∃ (k : Int) (j : Nat), es = [.int k] ∧ ns[j]? = some k ∧ (∀ m : Nat, m < j → ns[m]? ≠ some k) ∧ Q (.nx (ρ.set i (some (.own ((ns.eraseIdx j).map PyData.int))))) b', fun h ⟨ds, e, z⟩ => ⟨ds, e, f.m (fun es b' ⟨d, j, e2, l, l2, y⟩ => ⟨d, j, e2, l, l2, h _ _ y⟩) z⟩⟩
theorem intsW_rp {M : Addr → Prop} {H : Hp} : ∀ ns : List Int, RpAll M H (ns.map V.int) (ns.map PyData.int)
  | [] => .nil
  | n :: ns => .cons (.int n) (intsW_rp ns)
theorem rpW_ints {M : Addr → Prop} {H : Hp} : ∀ {vs : List V} {ns : List Int}, RpAll M H vs (ns.map PyData.int) → vs = ns.map V.int
  | [], [], _ => rfl
  | _, [], h => by cases h; rfl
  | _, n :: ns, h => by
    cases h with
    | cons r t =>
      cases r
      rw [rpW_ints t]
      rfl
theorem nS_rem {st : Stmt} {i : Nat} {f : WP (List D)} (h : PS X st (tDrop (tBM K "list" rRemI (tVar i) (tnA f)))) : PS X st (tSn (swRem i f)) := h.wk fun Dn σ H q => by
  obtain ⟨g, M0, H0, ρ, b, R, ns, z, q⟩ := q
  obtain ⟨p, vs, a, c, h0, l, r⟩ := R.own i _ z
  obtain rfl := rpW_ints r
  refine ⟨.ref p, a, .inl ⟨rfl, _, SqL.of c⟩, g, M0, H0, ρ, b, R, f.m (fun es b1 ⟨k, j, e, hj, hm, q⟩ us H1 k1 i1 r1 => ?_) q⟩
  subst e
  match us, r1 with
  | [u], .cons r1 .nil =>
    cases r1
    have c1 := k1 _ _ (fun o => R.dom0 p (R.pl p o) h0) c
    refine ⟨p, ns, k, j, rfl, rfl, c1, hj, hm, ?_⟩
    obtain ⟨R1, S1⟩ := (R.up k1 i1).ownSet z a c1 (vs' := (ns.eraseIdx j).map V.int) (by
      rw [List.length_map] at l ⊢
      exact Nat.le_trans (List.length_eraseIdx_le ..) l) (intsW_rp _)
    exact q _ _ R1 ((R.stp k1).trans S1)
/-! ### xs.index(z) of a list -/
def idxLD : D → D → Option D
  | .list ds, d => if (okD (.list ds) && okD d) = true then (ds.findIdx? fun z => PyData.eqv z d).map fun j => .int (j : Nat) else none
  | _, _ => none
theorem dE_idxL {ob e : Expr} {apos cpos : Pos} {f1 f2 : EF} {μ : Bool} (hu : X.A.units + 65 < cLine) (ho : PE X ob (tD μ f1)) (ha : PE X e (tD μ f2))
    (hbase : attributeBase ob "index" X.env (eval ob X.env) = eval ob X.env := by rfl)
    (hfew : ((backTo cpos (starEach [e] X.env)).all (fun x => !x.1) && (backToKw cpos (keywordEach [] X.env)).all (fun x => x.1.isSome) && decide (([e] : List Expr).length + ([] : List Keyword).length + (if ([] : List Keyword).isEmpty then 0 else 1) < 30)) = true := by rfl)
    (hline : (apos.endLine == cpos.line) = true := by rfl) (hs : starEach [e] X.env = (false, eval e X.env) :: starEach [] X.env := by rfl) (hplain : (backTo cpos (starEach [] X.env)).any (·.1) = false := by rfl) :
    PE X (.Call (.Attribute ob "index" apos) [e] [] cpos) (tD μ (e2 idxLD f1 f2)) := (pe_bm PySem.F.plainAttrs_list PySem.F.slot_list_index PySem.F.type_list_index (mt_indexD hu) ho (dA_cons ha dA_nil hs) hbase hfew hline hs hplain).wk fun σ H Q q => by
  obtain ⟨M0, H0, ρ, d, R, e, q⟩ := q
  obtain ⟨a, ea, e⟩ := some_bind e
  obtain ⟨b, eb, e⟩ := some_bind e
  refine ⟨M0, H0, ρ, a, R, ea, fun x H1 s1 r1 => ?_⟩
  cases r1 with
  | @lst ad xs ds t n l r =>
    have e : (if (okD (.list ds) && okD b) = true then (ds.findIdx? fun z => PyData.eqv z b).map fun j => PyData.int (j : Nat) else none) = some d := e
    by_cases hk : (okD (.list ds) && okD b) = true
    rotate_left
    · rw [if_neg hk] at e
      cases e
    rw [if_pos hk] at e
    have hk := Bool.and_eq_true_iff.mp hk
    obtain ⟨j, hj, ej⟩ := some_map e
    subst ej
    obtain ⟨hl, h1, h2⟩ := List.findIdx?_eq_some_iff_getElem.mp hj
    refine ⟨.inl ⟨rfl, _, SqL.of t⟩, ⟨M0, H0, ρ, [b], R.mono s1, by show (f2 ρ).bind _ = _; rw [eb]; rfl, fun us H2 s2 r2 => ?_⟩⟩
    match us, r2 with
    | [u], .cons r2 .nil =>
      have dl := Rp.dp (K := X.K) ((Rp.lst t n l r).mono (.of s2)) (okD.parts hk.1).1
      have db := Rp.dp (K := X.K) r2 (okD.parts hk.2).1
      exact ⟨ad, u, b, ds, j, ds[j], rfl, rfl, dl, db, (okD.parts hk.1).2, (okD.parts hk.2).2, List.getElem?_eq_getElem hl, h1, fun m z' hm hz => by
        obtain ⟨hm2, rfl⟩ := List.getElem?_eq_some_iff.mp hz
        simpa using h2 m hm, q _ _ (s1.trans s2) (.int _)⟩
  | non => cases e
  | bl b => cases e
  | int i => cases e
  | str x hx => cases e
  | tup t n l r => cases e
  | dic t n h => cases e
/-! ### list(t) as a list of one's own -/
def lisX : D → Option D
  | .list ds => some (.list ds)
  | .tuple ds => some (.list ds)
  | _ => none
theorem oE_listC {e : Expr} {p pos : Pos} {f : EF} (hg : Gl X "list") (hm : X.mg "list" = none) (hv : bootBuiltins "list" = some (.type "list")) (h : PE X e (tD true f))
    (he : starEach (e :: []) X.env = (false, eval e X.env) :: starEach [] X.env := by rfl) (hpl : (backTo pos (starEach [] X.env)).any (·.1) = false := by rfl) :
    PE X (.Call (.Name "list" p) [e] [] pos) (tN (e1 lisX f)) := (pe_callTy call_list_of hg hm hv (dA_cons h dA_nil he) (by decide) (by decide) he hpl).wk fun σ H Q q => by
  obtain ⟨M0, H0, ρ, ds, R, e, q⟩ := q
  obtain ⟨a, ea, e⟩ := some_bind e
  refine ⟨M0, H0, ρ, [a], R, by show (f ρ).bind _ = _; rw [ea]; rfl, fun us H1 s1 r1 => ?_⟩
  match us, r1 with
  | [u], .cons r1 .nil =>
    have np0 : ∀ {q' : Addr}, H1 q' = none → H q' = none := fun {q'} np => by
      cases z : H q' with
      | none => rfl
      | some o => rw [s1 _ _ z] at np; cases np
    cases r1 with
    | tup t n l r =>
      cases e
      exact ⟨_, _, rfl, .inr t.sq, fun q' np => q q' _ _ (np0 np) (s1.trans (smN np)) upd_same l ((r.reM fun a m => by
        rcases m with m | rfl
        · exact .inl m
        · exact .inr np).mono (.of (smN np)))⟩
    | lst t n l r =>
      cases e
      exact ⟨_, _, rfl, .inl (SqL.of t), fun q' np => q q' _ _ (np0 np) (s1.trans (smN np)) upd_same l ((r.reM fun a m => by
        rcases m with m | rfl
        · exact .inl m
        · exact .inr np).mono (.of (smN np)))⟩
    | non => cases e
    | bl b => cases e
    | int i => cases e
    | str x hx => cases e
    | dic t n h => cases e
/-! ### list(range(n)) as a list of one's own -/
def eLstRg1 (f : EF) : EF := fun ρ => (f ρ).bind fun d => match d with
  | .int n => if -(2 ^ 62) ≤ n ∧ n < 2 ^ 20 then some (.list (rgD 0 n.toNat)) else none
  | _ => none
theorem oE_lstRg1 {e : Expr} {p pos p2 pos2 : Pos} {f : EF} (hc : X.calm = true) (hg : Gl X "list") (hm : X.mg "list" = none) (hg2 : Gl X "range") (hm2 : X.mg "range" = none) (h : PE X e (tD true f))
    (na : starEach [(Expr.Call (.Name "range" p2) [e] [] pos2)] X.env = (false, eval (Expr.Call (.Name "range" p2) [e] [] pos2) X.env) :: starEach [] X.env := by rfl) (nb : starEach [e] X.env = (false, eval e X.env) :: starEach [] X.env := by rfl) :
    PE X (.Call (.Name "list" p) [.Call (.Name "range" p2) [e] [] pos2] [] pos) (tN (eLstRg1 f)) := (pe_listRg hc hg hm (prg_1 hg2 hm2 h nb) na).wk fun σ H Q q => by
  obtain ⟨M0, H0, ρ, ds, R, e, q⟩ := q
  obtain ⟨a, ea, e⟩ := some_bind e
  refine ⟨M0, H0, ρ, a, R, ea, fun x H1 s1 r1 => ?_⟩
  cases a <;> try (cases e; done)
  rename_i n
  obtain ⟨l, e2⟩ := iteS e
  cases e2
  cases r1
  refine ⟨n, rfl, ⟨by decide, by decide, l.1, by omega, by omega⟩, fun q' np => q q' _ _ ?_ (s1.trans (smN np)) upd_same (by rw [rgV_length]; exact szR (by omega)) (rgV_rp n)⟩
  cases z : H q' with
  | none => rfl
  | some o => rw [s1 _ _ z] at np; cases np
end
end Dl
namespace Dl
open PySem PySem.Spec PyProof.Rows L2 Rt
/-! ### dicts whose keys are numbers or texts -/
theorem u1 {k : Nat} {A : Around} (r : Room k A) : A.units + 1 < cLine := by
  have := r.un
  omega
def keyOf : D → Option Key
  | .int i => some (.inl i)
  | .str x => some (.inr x)
  | _ => none
theorem keyOf_kD (k : Key) : keyOf (kD k) = some k := by cases k <;> rfl
theorem Rp.key {M : Addr → Prop} {H : Hp} {v : V} {d : D} {k : Key} (r : Rp M H v d) (h : keyOf d = some k) : v = kV k := by
  cases r <;> cases h <;> rfl
def lookD (k : Key) : List (D × D) → Option D
  | [] => none
  | e :: es => if keyOf e.1 = some k then some e.2 else lookD k es
def dgD : D → D → Option D
  | .dict es, k => (keyOf k).bind fun k => lookD k es
  | _, _ => none
theorem RpKV.val {M : Addr → Prop} {H : Hp} {k : Key} {d : D} : ∀ {kvs : List (Key × V)} {es : List (D × D)}, RpKV M H kvs es → lookD k es = some d → ∃ v, valV kvs k = some v ∧ Rp M H v d
  | _, _, .nil, e => nomatch e
  | _, _, .cons (k := k0) (v := v0) h t, e => by
    unfold lookD at e
    by_cases z : k0 = k
    · rw [if_pos (show keyOf (kD k0) = some k by rw [keyOf_kD, z])] at e
      cases e
      exact ⟨v0, by unfold valV; rw [List.find?_cons_of_pos (by simp [z])]; rfl, h⟩
    · rw [if_neg (show ¬ keyOf (kD k0) = some k by rw [keyOf_kD]; intro q; injection q with q; exact z q)] at e
      obtain ⟨v, e1, r⟩ := t.val e
      exact ⟨v, by unfold valV at e1 ⊢; rw [List.find?_cons_of_neg (by simp [z])]; exact e1, r⟩
def putD (es : List (D × D)) (k : Key) (d : D) : List (D × D) := if (es.any fun e => decide (keyOf e.1 = some k)) = true then es.map (fun e => if keyOf e.1 = some k then (e.1, d) else e) else es ++ [(kD k, d)]
theorem RpKV.any {M : Addr → Prop} {H : Hp} (k : Key) : ∀ {kvs : List (Key × V)} {es : List (D × D)}, RpKV M H kvs es → (kvs.any fun kv => decide (kv.1 = k)) = es.any fun e => decide (keyOf e.1 = some k)
  | _, _, .nil => rfl
  | _, _, .cons (k := k0) h t => by
    rw [List.any_cons, List.any_cons, t.any k]
    congr 1
    show decide (k0 = k) = decide (keyOf (kD k0) = some k)
    rw [keyOf_kD]
    exact decide_eq_decide.mpr ⟨fun h => by rw [h], fun h => by injection h⟩
theorem RpKV.app {M : Addr → Prop} {H : Hp} {k : Key} {v : V} {d : D} (r : Rp M H v d) : ∀ {kvs : List (Key × V)} {es : List (D × D)}, RpKV M H kvs es → RpKV M H (kvs ++ [(k, v)]) (es ++ [(kD k, d)])
  | _, _, .nil => .cons r .nil
  | _, _, .cons h t => .cons h (t.app r)
theorem RpKV.mapP {M : Addr → Prop} {H : Hp} {k : Key} {v : V} {d : D} (r : Rp M H v d) : ∀ {kvs : List (Key × V)} {es : List (D × D)}, RpKV M H kvs es → RpKV M H (kvs.map fun kv => if kv.1 = k then (kv.1, v) else kv) (es.map fun e => if keyOf e.1 = some k then (e.1, d) else e)
  | _, _, .nil => .nil
  | _, _, .cons (k := k0) (v := v0) (d := d0) h t => by
    rw [List.map_cons, List.map_cons]
    by_cases z : k0 = k
    · rw [if_pos z, if_pos (show keyOf (kD k0) = some k by rw [keyOf_kD, z])]
      exact .cons r (t.mapP r)
    · rw [if_neg z, if_neg (show ¬ keyOf (kD k0) = some k by rw [keyOf_kD]; intro q; injection q with q; exact z q)]
      exact .cons h (t.mapP r)
theorem RpKV.put {M : Addr → Prop} {H : Hp} {k : Key} {v : V} {d : D} {kvs : List (Key × V)} {es : List (D × D)} (t : RpKV M H kvs es) (r : Rp M H v d) : RpKV M H (putK kvs k v) (putD es k d) := by
  unfold putK putD
  rw [t.any k]
  split
  · exact t.mapP r
  · exact t.app r
theorem RpKV.len {M : Addr → Prop} {H : Hp} : ∀ {kvs : List (Key × V)} {es : List (D × D)}, RpKV M H kvs es → kvs.length = es.length
  | _, _, .nil => rfl
  | _, _, .cons _ t => congrArg (· + 1) t.len
theorem putK_len (kvs : List (Key × V)) (k : Key) (v : V) : (putK kvs k v).length ≤ kvs.length + 1 := by
  unfold putK
  split
  · rw [List.length_map]; omega
  · rw [List.length_append]; exact Nat.le_refl _
def dcGo (p : Pat) (c : Rho → Option Bool) (fk fv : EF) (ρ : Rho) : List D → List (D × D) → Option (List (D × D))
  | [], acc => some acc
  | x :: xs, acc => (bindP p x ρ).bind fun ρ1 => (c ρ1).bind fun b => if b = true then (fk ρ1).bind fun dk => (keyOf dk).bind fun k => (fv ρ1).bind fun d => dcGo p c fk fv ρ xs (putD acc k d) else dcGo p c fk fv ρ xs acc
def eDc (μ : Bool) (vs : List Nat) (it : Rho → Option (List D)) (p : Pat) (c : Rho → Option Bool) (fk fv : EF) : EF := fun ρ => (it ρ).bind fun items => (dcGo p c fk fv (wipeR (shutR μ ρ) vs) items []).map .dict
theorem dcCore {K : PySem.W.Frag} {μ μk μi pr : Bool} {M0 : Addr → Prop} {H0 H1 : Hp} {σ : L2.St} {ρ : Rho} {J : It} {items : List D} {res : List (D × D)} {p : Pat} {c : Rho → Option Bool} {fk fv : EF} {vs : List Nat} {D : Addr} {Qd : Hp → Prop}
    (R : Rs M0 H0 H1 σ ρ) (dw : ∀ M', (∀ a, M' a → Mu μ M0 σ ρ a ∨ H1 a = none) → DW pr M' H1 J items) (hD : H1 D = none) (hp : p.fits pr = true) (hs : ∀ j, j ∈ slP p → j ∈ vs) (e : dcGo p c fk fv (wipeR (shutR μ ρ) vs) items [] = some res)
    (q : ∀ H kvs, Same H1 H → H D = some (.dK kvs) → RpKV (Mi μ M0 σ ρ D) H kvs res → Qd H) :
    ∃ W : Nat → Nat → Hp → Prop, (∃ m, W 0 m (upd H1 D (.dK []))) ∧ ∀ i m H, W i m H →
      (J.stop i H ∧ Qd H) ∨ (J.go i H ∧ ∃ Nx : Hp → Prop, (∀ H', Nx H' → ∃ m', m' < m ∧ W (i + 1) m' H') ∧ ∀ x H', J.yld i H x H' → gP K p x (wipe σ vs) H' fun σ2 H2 => wipe σ2 vs = wipe σ vs ∧ tT c σ2 H2 fun b H3 =>
        if b = true then tD μk fk σ2 H3 fun y H4 => tD μi fv σ2 H4 fun z H5 => ∃ kvs k, y = kV k ∧ H5 D = some (.dK kvs) ∧ kvs.length < sizeLine ∧ Nx (upd H5 D (.dK (putK kvs k z))) else Nx H3) := by
  have dw := dw (Mi μ M0 σ ρ D) fun a m => m.elim .inl fun z => .inr (by rw [z]; exact hD)
  have sz := dw.sz
  obtain ⟨G, Y, W, hG, hY⟩ := dw.ex
  let I : Nat → Hp → Prop := fun i H => Same H1 H ∧ ∃ kvs acc, H D = some (.dK kvs) ∧ kvs.length ≤ i ∧ RpKV (Mi μ M0 σ ρ D) H kvs acc ∧ dcGo p c fk fv (wipeR (shutR μ ρ) vs) (items.drop i) acc = some res
  refine ⟨fun i m H => i ≤ items.length ∧ m = items.length - i ∧ I i H, ⟨_, Nat.zero_le _, rfl, smN hD, [], [], upd_same, Nat.le_refl _, .nil, e⟩, ?_⟩
  rintro i m H ⟨hi, rfl, sm, kvs, acc, eD, la, ra, er⟩
  by_cases hlt : i < items.length
  · refine .inr ⟨W.goes i H hlt (hG _ (.of sm)), fun H' => I (i + 1) H', fun H' h => ⟨items.length - (i + 1), by omega, hlt, rfl, h⟩, fun v H' y => ?_⟩
    obtain ⟨d, ed, s2, rv⟩ := hY i v H H' (.of sm) (W.yields i H v H' hlt (hG _ (.of sm)) y)
    rw [drop_at ed] at er
    unfold dcGo at er
    obtain ⟨ρ1, e1, er⟩ := some_bind er
    obtain ⟨b, eb, er⟩ := some_bind er
    have Rin := R.inner (μ := μ) hD (sm.trans s2) (s2 _ _ eD) vs
    refine bindP.ok (pr := pr) Rin ?_ hp e1 fun σ2 R2 B2 => ⟨wipe_eq B2.oth B2.len hs, _, _, ρ1, b, R2, eb, fun H3 s3 => ?_⟩
    · rcases rv with rv | ⟨zp, a, xs, ds, z1, z2, z3, z4⟩
      · exact .inl (rv.reM fun a m => .inl (Mi.noOwn a m))
      · exact .inr ⟨zp, a, xs, ds, z1, z2, z3, z4.reM fun a m => .inl (Mi.noOwn a m)⟩
    have s13 := (sm.trans s2).trans s3
    cases b with
    | true =>
      obtain ⟨dk, edk, er⟩ := some_bind (show (fk ρ1).bind _ = some res from er)
      obtain ⟨k, ek, er⟩ := some_bind er
      obtain ⟨dv, edv, er⟩ := some_bind er
      refine ⟨_, _, ρ1, dk, R2.mono s3, edk, fun y H4 s4 r4 => ⟨_, _, ρ1, dv, (R2.mono s3).mono s4, edv, fun z H5 s5 r5 => ?_⟩⟩
      have s35 := s3.trans (s4.trans s5)
      have eD5 := (s2.trans s35) _ _ eD
      have kp : KpM (Mi μ M0 σ ρ D) H5 (upd H5 D (.dK (putK kvs k z))) := fun q o n e => by
        rw [upd_ne (fun z => n (.inr z))]
        exact e
      have r5 : Rp (Mi μ M0 σ ρ D) H5 z dv := r5.reM fun a m => .inl (.inl m)
      refine ⟨kvs, k, r4.key ek, eD5, by omega, fun q o e => ?_, putK kvs k z, putD acc k dv, upd_same, Nat.le_trans (putK_len _ _ _) (by omega), ?_, er⟩
      · rw [upd_ne (ne_of_none e hD)]
        exact (s13.trans (s4.trans s5)) _ _ e
      · exact ((ra.mono (.of (s2.trans s35))).mono kp).put (r5.mono kp)
    | false =>
      exact ⟨s13, kvs, acc, (s2.trans s3) _ _ eD, by omega, ra.mono (.of (s2.trans s3)), er⟩
  · have : i = items.length := by omega
    subst this
    rw [List.drop_length] at er
    cases er
    exact .inl ⟨W.stops H (hG _ (.of sm)), q H kvs sm eD ra⟩
section
variable {X : Cx} {K : PySem.W.Frag}
theorem dE_dc {e : Expr} {it : Rho → Option (List D)} {p : Pat} {c : Rho → Option Bool} {fk fv : EF} {vs : List Nat} {μ μk μi pr : Bool} (h : PE X e (tDc (iD μ pr it) (gP K p) (tT c) (tD μk fk) (tD μi fv) vs)) (hp : p.fits pr = true := by rfl) (hs : ∀ j, j ∈ slP p → j ∈ vs := by decide) : PE X e (tD μ (eDc μ vs it p c fk fv)) := h.wk fun σ H Q q => by
  obtain ⟨M0, H0, ρ, d, R, e, q⟩ := q
  obtain ⟨items, ei, e⟩ := some_bind e
  obtain ⟨res, er, rfl⟩ := some_map e
  exact ⟨M0, H0, ρ, items, R, ei, fun J H1 s1 dw D hD => dcCore (R.mono s1) dw hD hp hs er fun H2 kvs s2 eD ra => q _ _ (s1.trans s2) (.dic eD (((R.mono s1).domu μ).not hD) (ra.reM fun a m => .inl (.inl m)))⟩
theorem dE_dget {o i : Expr} {pos : Pos} {f1 f2 : EF} {μ : Bool} (hu : X.A.units + 1 < cLine) (ho : PE X o (tD μ f1)) (hi : PE X i (tD μ f2)) (hs : NoSl i := by exact fun _ _ => rfl) : PE X (.Subscript o i pos) (tD μ (e2 dgD f1 f2)) := (pe_dget hu ho hi hs).wk fun σ H Q q => by
  obtain ⟨M0, H0, ρ, d, R, e, q⟩ := q
  obtain ⟨a, ea, e⟩ := some_bind e
  obtain ⟨b, eb, e⟩ := some_bind e
  refine ⟨M0, H0, ρ, a, R, ea, fun x H1 s1 r1 => ⟨M0, H0, ρ, b, R.mono s1, eb, fun y H2 s2 r2 => ?_⟩⟩
  cases r1 with
  | @dic a kvs es t n h =>
    obtain ⟨k, ek, e⟩ := some_bind e
    obtain ⟨v, ev, rv⟩ := (h.mono (.of s2)).val e
    exact ⟨_, v, rfl, .inl ⟨kvs, k, .inl (s2 _ _ t), r2.key ek, ev.symm⟩, q v H2 (s1.trans s2) rv⟩
  | non => cases e
  | bl b => cases e
  | int i => cases e
  | str x hx => cases e
  | tup t n l r => cases e
  | lst t n l r => cases e
/-! ### a list of one's own, put otherwise at a place -/
def sPut (i : Nat) (f fi : EF) : Rho → Option Out := fun ρ => (f ρ).bind fun d => match ρ[i]? with
  | some (some (.own ds)) => (fi ρ).bind fun x => match x with
    | .int k => (ixN ds.length k).map fun j => .nx (ρ.set i (some (.own (ds.set j d))))
    | _ => none
  | _ => none
theorem dS_put {st : Stmt} {i : Nat} {f fi : EF} (h : PS X st (tAsg (tD true f) (gSub (tVar i) (tD true fi) rSetLL))) : PS X st (tS (sPut i f fi)) := h.wk fun Dn σ H q => by
  obtain ⟨M0, H0, ρ, o, R, e, q⟩ := tS_iff.mp q
  obtain ⟨d, ed, e⟩ := some_bind e
  split at e
  · rename_i ds z
    obtain ⟨x, ex, e⟩ := some_bind e
    cases x <;> try (cases e; done)
    rename_i k
    obtain ⟨j, ej, rfl⟩ := some_map e
    refine ⟨M0, H0, ρ, d, R, ed, fun v H1 s1 r1 => ?_⟩
    obtain ⟨p, vs, a, c, h0, l, r⟩ := (R.mono s1).own i ds z
    refine ⟨.ref p, a, M0, H0, ρ, .int k, R.mono s1, ex, fun y H2 s2 r2 => ?_⟩
    cases r2
    refine ⟨p, vs, k, j, rfl, rfl, s2 _ _ c, by rw [r.len]; exact ej, fun H3 e3 => ?_⟩
    subst e3
    obtain ⟨R3, S3⟩ := ((R.mono s1).mono s2).ownSet z a (s2 _ _ c) (vs' := vs.set j v) (by rw [List.length_set]; exact l) (RpAll.set (r1.mono (.of s2)) j (r.mono (.of s2)))
    exact q _ _ R3 ((Stp.of (s1.trans s2)).trans S3)
  · cases e
/-! ### walks downwards -/
def dnD (hi : Int) (n : Nat) : List D := (List.range n).map fun (i : Nat) => PyData.int (hi - (i : Int))
theorem dnD_len (hi : Int) (n : Nat) : (dnD hi n).length = n := by unfold dnD; rw [List.length_map, List.length_range]
theorem DW.rngC {M : Addr → Prop} {H : Hp} {hi : Int} {n : Nat} (l : n ≤ sizeLine) : DW false M H (Itc hi (-1) n) (dnD hi n) := by
  have hl := dnD_len hi n
  refine ⟨⟨fun _ => True, fun i H x H' => i < n ∧ YFn (fun i => V.int (hi + (i : Nat) * (-1))) i H x H', ?_, fun _ _ => trivial, fun i v Ha Hb k y => ?_⟩, by rw [hl]; exact l⟩
  · rw [hl]
    exact ⟨walk_rangeC.goes, walk_rangeC.stops, fun i H x H' hi g y => ⟨hi, walk_rangeC.yields i H x H' hi g y⟩⟩
  · obtain ⟨hi2, rfl, rfl⟩ := y
    refine ⟨.int (hi + (i : Nat) * (-1)), ?_, Same.refl _, .inl (.int _)⟩
    unfold dnD
    rw [List.getElem?_map, List.getElem?_range hi2]
    show some (PyData.int (hi - (i : Int))) = _
    rw [show hi - (i : Int) = hi + (i : Int) * (-1) by omega]
def ran3D : List D → Option (List D)
  | [.int i, .int j, .int c] => if c = -1 ∧ j ≤ i ∧ -(2 ^ 40) ≤ j ∧ i < 2 ^ 20 ∧ i - j < 2 ^ 20 then some (dnD i (i - j).toNat) else none
  | _ => none
theorem rgc_dn {i j : Int} (h1 : j ≤ i) (h2 : -(2 ^ 40) ≤ j) (h3 : i < 2 ^ 20) : RgC i j (-1) (i - j).toNat := by
  refine ⟨by decide, by decide, ?_, ?_⟩
  · have e : Builtin.Range.rangeSize i j (-1) = i - j := by
      unfold Builtin.Range.rangeSize
      simp
      omega
    unfold Builtin.Range.small Builtin.Range.rangeFitsLong
    rw [e]
    simp
    omega
  · unfold Builtin.Range.rangeSize
    simp
    by_cases h : j < i
    · simp [h]; omega
    · simp [h]; omega
theorem dI_ran3 {tg a b c : Expr} {p pos : Pos} {f : Rho → Option (List D)} {μ : Bool} (hg : Gl X "range") (hm : X.mg "range" = none) (ha : PA X [a, b, c] (tA μ f)) (hs : starEach [a, b, c] X.env = (false, eval a X.env) :: starEach [b, c] X.env := by rfl) (hs2 : (backTo pos (starEach [b, c] X.env)).any (·.1) = false := by rfl) : PI X tg (.Call (.Name "range" p) [a, b, c] [] pos) (iD μ false (itG ran3D f)) := (pi_range3 hg hm ha hs hs2).wk fun σ H R q => by
  obtain ⟨M0, H0, ρ, items, Rr, e, q⟩ := q
  obtain ⟨ds, ed, e⟩ := some_bind e
  refine ⟨M0, H0, ρ, ds, Rr, ed, fun vs H1 s1 r1 => ?_⟩
  unfold ran3D at e
  split at e
  · rename_i i j c
    obtain ⟨⟨rfl, l1, l2, l3, l4⟩, rfl⟩ := iteS e
    cases r1 with
    | cons h1 r1 =>
      cases h1
      cases r1 with
      | cons h2 r1 =>
        cases h2
        cases r1 with
        | cons h3 r1 =>
          cases h3
          cases r1
          exact ⟨i, j, -1, _, rfl, rgc_dn l1 l2 l3, q _ _ s1 fun M' hM => DW.rngC (szR (by omega))⟩
  · cases e
def revR1 (f : EF) : Rho → Option (List D) := fun ρ => (f ρ).bind fun d => match d with
  | .int n => if 0 ≤ n ∧ n < 2 ^ 20 then some (dnD (n - 1) n.toNat) else none
  | _ => none
theorem dI_rev1 {tg a : Expr} {p pos p2 pos2 : Pos} {f : EF} {μ : Bool} (hg : Gl X "reversed") (hm : X.mg "reversed" = none) (hg2 : Gl X "range") (hm2 : X.mg "range" = none) (ha : PE X a (tD μ f)) (na : starEach [a] X.env = (false, eval a X.env) :: starEach [] X.env := by rfl) : PI X tg (.Call (.Name "reversed" p) [.Call (.Name "range" p2) [a] [] pos2] [] pos) (iD μ false (revR1 f)) := (pi_revR hg hm (prg_1 hg2 hm2 ha na)).wk fun σ H R q => by
  obtain ⟨M0, H0, ρ, items, Rr, e, q⟩ := q
  obtain ⟨d, ed, e⟩ := some_bind e
  refine ⟨M0, H0, ρ, d, Rr, ed, fun v H1 s1 r1 => ?_⟩
  cases r1 <;> try (cases e; done)
  rename_i n
  obtain ⟨⟨l1, l2⟩, rfl⟩ := iteS e
  refine ⟨n, rfl, by omega, by omega, by omega, by omega, ?_⟩
  rw [show (0 : Int) + (((n - 0).toNat : Nat) : Int) - 1 = n - 1 by omega, show (n - 0).toNat = n.toNat by omega]
  exact q _ _ s1 fun M' hM => DW.rngC (szR (by omega))
end
end Dl
namespace Dl
open PySem PySem.Spec PyProof.Rows L2 Rt
theorem filt_empty (bs : List Bool) : ((bs.filter (!·)).map fun _ => PyData.int 1).isEmpty = bs.all id := by
  induction bs with
  | nil => rfl
  | cons b bs ih =>
    cases b with
    | false => rfl
    | true => exact ih
theorem ev_cons {f : EF} {g : Rho → Option (List D)} {ρ : Rho} {d : D} {ds : List D} (h1 : f ρ = some d) (h2 : g ρ = some ds) : aCons f g ρ = some (d :: ds) := by
  unfold aCons
  rw [h1]
  show (g ρ).map _ = _
  rw [h2]
  rfl
theorem ev_tupX {g : Rho → Option (List D)} {ρ : Rho} {ds : List D} (h : g ρ = some ds) (hl : ds.length ≤ 1000) : eTup g ρ = some (.tuple ds) := by
  unfold eTup
  rw [h]
  exact if_pos (sz (by omega))
theorem ev_lstX {g : Rho → Option (List D)} {ρ : Rho} {ds : List D} (h : g ρ = some ds) (hl : ds.length ≤ 1000) : eLst g ρ = some (.list ds) := by
  unfold eLst
  rw [h]
  exact if_pos (sz (by omega))
theorem okFnG {P : Program} {w : World} {K : PySem.W.Frag} {mg : Str → Option Value} {base : Heap} {x qual : Str} {st : Stmt} {f : Addr} {fd : FuncData} {N ps : List Str} {k n : Nat} {g : List D → Option D} (F : Fun K x qual st f fd) (S : FnScope N ps (defScope st)) (hn : n = ps.length)
    (walk : ∀ (cdv : Value) (A : Around) (outer : List Env) (s : Shared) (H : Hp) (E : XK), Room k (A.deeper (envOfC qual (defScope st) s.heap.objs.size f cdv)) → (A.deeper (envOfC qual (defScope st) s.heap.objs.size f cdv)).guards = some [] →
      ∃ fS, PSs (cxOf CX0 P w K mg base N qual (defScope st) f cdv A outer s H E).nox (defBody st) (tS fS) ∧ ∀ ds d, ds.length = n → g ds = some d → ∃ o, fS (startR N.length ds) = some o ∧ Tells o d) :
    FnG P w K mg base (k + 1) f fd ps (spD n g) := by
  refine okG F S (fun vs H Q E h => ?_) (fun cdv A outer s H vs Q E hr free h => ?_)
  · obtain ⟨M, ds, d, dm, r, l, _⟩ := h
    rw [r.len, l, hn]
  · obtain ⟨M, ds, d, dm, r, l, e, q⟩ := h
    obtain ⟨fS, hS, hw⟩ := walk cdv A outer s H E hr free
    obtain ⟨o, eo, t⟩ := hw ds d l e
    refine ⟨_, hS, tS_iff.mpr ⟨M, H, _, o, r.start dm, eo, ?_⟩⟩
    cases o with
    | nx ρ' => cases t; exact fun σ' H' R s => q _ _ R.sm .non
    | rt d' => cases t; exact fun v H' s r => q v H' s r
    | bk ρ' => exact t.elim
    | ct ρ' => exact t.elim
def sSame : List D → Option D
  | [.bool a, .bool b] => if a = b then some (.bool true) else none
  | _ => none
section
variable {P : Program} {w : World} {K : PySem.W.Frag} {mg : Str → Option Value} {base : Heap}
end
end Dl
namespace Dl
open PySem PySem.Spec PyProof.Rows L2 Rt
def S (x : String) : D := .str (Str.ofString x)
/-- some thing of such a sort, by at most so many draws -/
def gAny (c : Nat) (pre : List D → Prop) (post : List D → D → Prop) : GF := ⟨fun ds n Q => pre ds ∧ c ≤ n ∧ ∀ d n', post ds d → n ≤ n' + c → Q d n', fun h ⟨a, b, q⟩ => ⟨a, b, fun d n' p l => h _ _ (q d n' p l)⟩⟩
def gNext : GF := gAny 1 (fun ds => ∃ b : Int, ds = [.int b] ∧ 0 < b ∧ b < 2 ^ 60) (fun ds d => ∃ b v : Int, ds = [.int b] ∧ d = .int v ∧ 0 ≤ v ∧ v < b)
def gOne : GF := gAny 1 (fun ds => ∃ w items, ds = [w] ∧ seqD w = some items ∧ 0 < items.length ∧ items.length ≤ 1000000) (fun ds d => ∃ w items, ds = [w] ∧ seqD w = some items ∧ d ∈ items)
theorem kp_own {g : Gd} {H H' : Hp} (k : Kp g H H') : KpM g.own H H' := fun p o n e => k p o (fun z => n (.inl z)) (fun z => n (.inr (.inr z))) e
section
variable {P : Program} {w : World} {K : PySem.W.Frag} {mg : Str → Option Value} {base : Heap}
theorem ok_drawN {f : Addr} {fd : FuncData} {k : Nat} {ps : List Str} (F : FnOk P w K mg base CX0 k f fd ps spNext) : FnOk P w K mg base CX0 k f fd ps (spN 1 gNext) := F.wk fun vs H Q E h => by
  obtain ⟨g, M, ws, ds, n, rfl, pl, dm, iv, r, l, ⟨b, rfl, b0, b1⟩, hn, q⟩ := h
  match ws, r with
  | [_], .cons (.int _) .nil =>
    exact ⟨g, n, b, rfl, iv, hn, b0, b1, fun v H' v0 v1 F' K' => q (.int v) (n - 1) ⟨b, v, rfl, rfl, v0, v1⟩ (by omega) (.int v) H' (kp_own K') F' (.int v)⟩
theorem ok_anyN {f : Addr} {fd : FuncData} (F : Fun K "_law_any" "_law_any" s_law_any f fd) (m_len : mg "len" = none) (C__law_draw : Cl P w K mg base 1 "_law_draw" ["_law_pool_here", "_law_many"] (spN 1 gNext)) : FnOk P w K mg base CX0 2 f fd ["_law_pool_here", "_law_some"] (spN 1 gOne) := by
  refine okFnN F sc_law_any rfl fun cdv A outer s H E hr => ⟨_, (nSs_one (nS_ret (ps_ret (nE_ix (nE_pure (dE_var (μ := true) (pv 1))) (nE_draw C__law_draw (hr.mono (by omega)) (by rfl) (pv 0) (nA_cons (nE_pure (dE_callB c_len (by rfl) m_len (by decide +kernel) (dA_cons (dE_var (μ := true) (pv 1)) (dA_nil (μ := true))))) nA_nil)))))), fun ds b Q l h => ?_⟩
  obtain ⟨⟨w, items, rfl, es, l0, l1⟩, hb, q⟩ := h
  have el : lenD [w] = some (.int items.length) := by
    cases w <;> cases es <;> rfl
  refine ⟨w, rfl, rfl, .int items.length, el, [.int items.length], rfl, rfl, ⟨_, rfl, by omega, by omega⟩, hb, fun d n' p hn => ?_⟩
  obtain ⟨b', v, e1, rfl, v0, v1⟩ := p
  cases e1
  obtain ⟨x, hx, xm, _⟩ := atI_in (xs := items) v0 v1
  refine ⟨x, ?_, q x n' ⟨w, items, rfl, es, xm⟩ hn⟩
  cases w <;> cases es <;> exact hx
end
theorem rgD_len (lo : Int) (n : Nat) : (rgD lo n).length = n := by unfold rgD; rw [List.length_map, List.length_range]
theorem rgD_get {lo : Int} {n j : Nat} (h : j < n) : (rgD lo n)[j]? = some (.int (lo + j)) := by
  unfold rgD
  rw [List.getElem?_map, List.getElem?_range h]
  rfl
theorem wNext {i : Nat} {e : EF} {ρ : Rho} {b : Nat} {Q : D → Nat → Prop} {m : Int} (hp : ρ[i]? = some (some .pool)) (he : e (shutR true ρ) = some (.int m)) (h0 : 0 < m) (h1 : m < 2 ^ 60) (hb : 1 ≤ b) (q : ∀ v n', 0 ≤ v → v < m → b ≤ n' + 1 → Q (.int v) n') : (wCall i 1 gNext (wCons (wP e) wNil)).w ρ b Q :=
  ⟨hp, .int m, he, _, rfl, rfl, ⟨m, rfl, h0, h1⟩, hb, fun d n' ⟨b', v, e1, e2, v0, v1⟩ hn => by
    cases e1
    subst e2
    exact q v n' v0 v1 hn⟩
theorem wOne {i : Nat} {e : EF} {ρ : Rho} {b : Nat} {Q : D → Nat → Prop} {x : D} {items : List D} (hp : ρ[i]? = some (some .pool)) (he : e (shutR true ρ) = some x) (hs : seqD x = some items) (h0 : 0 < items.length) (h1 : items.length ≤ 1000000) (hb : 1 ≤ b) (q : ∀ d n', d ∈ items → b ≤ n' + 1 → Q d n') : (wCall i 1 gOne (wCons (wP e) wNil)).w ρ b Q :=
  ⟨hp, x, he, _, rfl, rfl, ⟨x, items, rfl, hs, h0, h1⟩, hb, fun d n' ⟨w', it', e1, e2, m⟩ hn => by
    cases e1
    rw [hs] at e2
    cases e2
    exact q d n' m hn⟩
theorem lst4 {α : Type} {a b c d : α} {i : Int} (h0 : 0 ≤ i) (h1 : i < 4) : ∃ x, L2.atI [a, b, c, d] i = some x ∧ (x = a ∨ x = b ∨ x = c ∨ x = d) := by
  obtain ⟨x, e, m, _⟩ := atI_in (xs := [a, b, c, d]) h0 h1
  exact ⟨x, e, by simpa using m⟩
theorem lst3 {α : Type} {a b c : α} {i : Int} (h0 : 0 ≤ i) (h1 : i < 3) : ∃ x, L2.atI [a, b, c] i = some x ∧ (x = a ∨ x = b ∨ x = c) := by
  obtain ⟨x, e, m, _⟩ := atI_in (xs := [a, b, c]) h0 h1
  exact ⟨x, e, by simpa using m⟩
/-- a comprehension each of whose things costs so much -/
theorem lcN_all {p : Pat} {f : WP D} {ρ : Rho} (c : Nat) (Pt : D → Prop) : ∀ (items : List D) (b : Nat) (Q : List D → Nat → Prop), items.length * c ≤ b →
    (∀ x ∈ items, ∀ b Q, c ≤ b → (∀ d n', Pt d → b ≤ n' + c → Q d n') → ∃ ρ1, bindP p x ρ = some ρ1 ∧ f.w ρ1 b Q) → (∀ r b', r.length = items.length → (∀ d ∈ r, Pt d) → b ≤ b' + items.length * c → Q r b') → lcN p wYes f ρ items b Q
  | [], b, Q, _, _, q => q [] b rfl (fun d m => nomatch m) (by simp)
  | x :: xs, b, Q, hb, hf, q => by
    have e : (x :: xs).length * c = xs.length * c + c := by rw [List.length_cons, Nat.add_mul, Nat.one_mul]
    rw [e] at hb q
    obtain ⟨ρ1, e1, w1⟩ := hf x (by simp) b (fun d b2 => lcN p wYes f ρ xs b2 fun r b3 => Q (d :: r) b3) (by omega) fun d n' pd hn => lcN_all c Pt xs n' _ (by omega) (fun y hy => hf y (by simp [hy])) fun r b' hl hr hb' => q (d :: r) b' (by rw [List.length_cons, List.length_cons, hl]) (fun z hz => by
      rcases List.mem_cons.mp hz with e | e
      · rw [e]; exact pd
      · exact hr z e) (by omega)
    exact ⟨ρ1, e1, w1⟩
/-- a comprehension that keeps some of its items -/
theorem lcN_some {i : Nat} {c : WP Bool} {ρ : Rho} (hi : i < ρ.length) (cst : Nat) : ∀ (items : List D) (b : Nat) (Q : List D → Nat → Prop), items.length * cst ≤ b →
    (∀ x ∈ items, ∀ b Q, cst ≤ b → (∀ k n', b ≤ n' + cst → Q k n') → c.w (ρ.set i (some (.dat x))) b Q) → (∀ r b', r.Sublist items → b ≤ b' + items.length * cst → Q r b') → (∀ x, (shutR true (ρ.set i (some (.dat x))))[i]? = some (some (.dat x))) → lcN (.nm i) c (wP (eVar i)) ρ items b Q
  | [], b, Q, _, _, q, _ => q [] b (List.Sublist.refl _) (by simp)
  | x :: xs, b, Q, hb, hc, q, hv => by
    have e : (x :: xs).length * cst = xs.length * cst + cst := by rw [List.length_cons, Nat.add_mul, Nat.one_mul]
    rw [e] at hb q
    refine ⟨ρ.set i (some (.dat x)), by unfold bindP; rw [if_pos hi], hc x (by simp) b _ (by omega) fun k n' hn => ?_⟩
    cases k with
    | true =>
      refine ⟨x, by unfold eVar; rw [hv x], ?_⟩
      exact lcN_some hi cst xs n' _ (by omega) (fun y hy => hc y (by simp [hy])) (fun r b' hs hb' => q _ b' (hs.cons₂ x) (by omega)) hv
    | false => exact lcN_some hi cst xs n' _ (by omega) (fun y hy => hc y (by simp [hy])) (fun r b' hs hb' => q _ b' (hs.cons x) (by omega)) hv
theorem wSmall {i : Int} (h : i.natAbs < 2 ^ 20) : (PyData.int i).weight ≤ 20 := by
  show (if i == 0 then 0 else i.natAbs.log2 + 1) ≤ 20
  split
  · omega
  · by_cases z : i.natAbs = 0
    · rw [z]; decide
    · have := (Nat.log2_lt z).mpr h
      omega
/-- a leaf of a drawn world -/
def Lf (d : D) : Prop := Bd 0 1 d ∧ d.weight ≤ 20
theorem lf_int {i : Int} (h0 : -1000000 ≤ i) (h1 : i ≤ 1000000) : Lf (.int i) := ⟨by show i.natAbs ≤ 10 ^ 29 + 100 * 0; omega, wSmall (by omega)⟩
theorem lf_S (x : String) (h1 : PyData.strOk (Str.ofString x) = true := by decide +kernel) (h2 : (Str.ofString x).length ≤ 20 := by decide +kernel) : Lf (S x) := ⟨⟨h1, h2⟩, h2⟩
/-- a tuple of such -/
theorem bd_tup {m n c l : Nat} {ds : List D} (hl : ds.length ≤ l) (l10 : l ≤ 10 + m) (h : ∀ d ∈ ds, Bd m n d ∧ d.weight ≤ c) : Bd m (n + 1) (.tuple ds) ∧ (PyData.tuple ds).weight ≤ l * (c + 1) :=
  ⟨⟨by omega, fun d hd => (h d hd).1⟩, Nat.le_trans (wAll_le fun d hd => (h d hd).2) (Nat.mul_le_mul_right _ hl)⟩
theorem iteB {c : Bool} {A B : Prop} (h1 : c = true → A) (h2 : c = false → B) : if c = true then A else B := by
  cases c with
  | true => exact h1 rfl
  | false => exact h2 rfl
theorem lst5 {α : Type} {a b c d e : α} {i : Int} (h0 : 0 ≤ i) (h1 : i < 5) : ∃ x, L2.atI [a, b, c, d, e] i = some x ∧ (x = a ∨ x = b ∨ x = c ∨ x = d ∨ x = e) := by
  obtain ⟨x, e, m, _⟩ := atI_in (xs := [a, b, c, d, e]) h0 h1
  exact ⟨x, e, by simpa using m⟩
/-- one of some that are reckoned with draws -/
theorem oneL {items : List D} {b : Nat} {Q : D → Nat → Prop} (h0 : 0 < items.length) (h1 : items.length ≤ 1000000) (hb : 1 ≤ b) (q : ∀ d n', d ∈ items → b ≤ n' + 1 → Q d n') : gOne.f [.list items] b Q := ⟨⟨.list items, items, rfl, rfl, h0, h1⟩, hb, fun d n' ⟨w', it', e1, e2, m⟩ hn => by
  cases e1
  cases e2
  exact q d n' m hn⟩
end Dl
namespace Dl
open PySem PySem.Spec PyProof.Rows L2 Rt
/-! ### the forms of a leak -/
def S2 (g : Wd → D → D) : Sem (Wd × D) where
  enc := fun (X, d) => [X.d, d]
  ok := fun (X, _) => X.ok
  out := fun (X, d) => g X d
  fn := fun {x y} _ _ e => by
    obtain ⟨X, d⟩ := x
    obtain ⟨X', d'⟩ := y
    injection e with e1 e
    injection e with e2 e
    cases Wd.inj e1
    cases e2
    rfl
def SBrF : Sem (Wd × D) := S2 fun X d => .bool (brF X d).isSome
def SMdF : Sem (Wd × D) := S2 fun X d => .bool (mdF X d).isSome
def SCho : Sem (Wd × Nat × Wy × D × D) where
  enc := fun (X, j, _, p, a) => [X.d, .int (j : Nat), p, a]
  ok := fun (X, j, y, _, _) => X.ok ∧ X.ws[j]? = some y
  out := fun (_, _, y, p, a) => .bool (chO y p a).isSome
  fn := fun {x y} hx hy e => by
    obtain ⟨X, j, r, p, a⟩ := x
    obtain ⟨X', j', r', p', a'⟩ := y
    injection e with e1 e
    injection e with e2 e
    injection e with e3 e
    injection e with e4 e
    cases Wd.inj e1
    cases nat_i e2
    cases e3
    cases e4
    cases hx.2.symm.trans hy.2
    rfl
theorem brF_eq {X : Wd} {z : Str} {i : Int} : brF X (.tuple [.str z, .int i]) = if z = Str.ofString "brought" ∧ 0 ≤ i then (X.ss[i.toNat]?).map fun r => (i.toNat, r) else none := rfl
theorem mdF_eq {X : Wd} {z : Str} {i : Int} {pl ag : D} : mdF X (.tuple [.str z, .int i, pl, ag]) = if z = Str.ofString "made" ∧ 0 ≤ i then (X.ws[i.toNat]?).bind fun y => (chO y pl ag).map fun q => (i.toNat, y, q.1, q.2) else none := rfl
theorem brF_ne {X : Wd} {z : Str} {b : D} (h : z ≠ Str.ofString "brought") : brF X (.tuple [.str z, b]) = none := by
  cases b with
  | int i => rw [brF_eq]; exact if_neg fun c => h c.1
  | none | bool _ | str _ | list _ | tuple _ | dict _ => rfl
theorem mdF_ne {X : Wd} {z : Str} {b pl ag : D} (h : z ≠ Str.ofString "made") : mdF X (.tuple [.str z, b, pl, ag]) = none := by
  cases b with
  | int i => rw [mdF_eq]; exact if_neg fun c => h c.1
  | none | bool _ | str _ | list _ | tuple _ | dict _ => rfl
theorem ints_from {ps : List Pt} : ∀ {ds : List D}, ds.length = ps.length → (ds.zip ps).all (fun z => isFrom z.2.l z.2.g z.1) = true → ∃ as : List Int, ds = as.map .int ∧ intsD ds = some as ∧ as.length = ps.length ∧ ∀ z ∈ as.zip ps, z.2.l ≤ z.1 ∧ z.1 ≤ z.2.g := by
  induction ps with
  | nil =>
    intro ds hl _
    cases ds with
    | nil => exact ⟨[], rfl, rfl, rfl, fun z h => nomatch h⟩
    | cons _ _ => cases hl
  | cons q ps ih =>
    intro ds hl h
    cases ds with
    | nil => cases hl
    | cons d ds =>
      have h := Bool.and_eq_true_iff.mp (show (isFrom q.l q.g d && (ds.zip ps).all _) = true from h)
      obtain ⟨as, e1, e2, e3, e4⟩ := ih (by simpa using hl) h.2
      obtain ⟨i, rfl⟩ : ∃ i, d = .int i := by
        cases d <;> first | exact ⟨_, rfl⟩ | (exact absurd h.1 Bool.false_ne_true)
      have h1 := Bool.and_eq_true_iff.mp (show (decide (q.l ≤ i) && decide (i ≤ q.g)) = true from h.1)
      refine ⟨i :: as, by rw [e1]; rfl, ?_, by rw [List.length_cons, List.length_cons, e3], fun z hz => ?_⟩
      · show (intsD ds).map _ = _
        rw [e2]
        rfl
      · rcases List.mem_cons.mp (show z ∈ (i, q) :: as.zip ps from hz) with rfl | hz
        · exact ⟨of_decide_eq_true h1.1, of_decide_eq_true h1.2⟩
        · exact e4 z hz
theorem ch_some {y : Wy} {p : Int} {ds : List D} : (chO y (.int p) (.tuple ds)).isSome = chB y p ds := by
  show (if chB y p ds = true then (intsD ds).map fun as => (p, as) else none).isSome = _
  cases h : chB y p ds with
  | false => rfl
  | true =>
    have h := Bool.and_eq_true_iff.mp (show (y.hs.any (· == p) && _) = true from h)
    have h2 := Bool.and_eq_true_iff.mp h.2
    obtain ⟨as, _, e, _⟩ := ints_from (of_decide_eq_true h2.1) h2.2
    rw [if_pos rfl, e]
    rfl
theorem row_len {m : Nat} {ds : List D} : isRow m m (.tuple ds) = decide (ds.length = m) := by
  show (decide ((m : Int) ≤ ds.length) && decide ((ds.length : Int) ≤ m)) = _
  by_cases h : ds.length = m
  · rw [h]; simp
  · rw [decide_eq_false h]
    by_cases h1 : (m : Int) ≤ ds.length
    · rw [decide_eq_true h1, decide_eq_false (by omega)]; rfl
    · rw [decide_eq_false h1]; rfl
theorem any_int {hs : List Int} {p : Int} : ((hs.map PyData.int).any fun z => PyData.eqv z (.int p)) = hs.any (· == p) := by
  rw [List.any_map]
  rfl
theorem okT_int {hs : List Int} : okD (.tuple (hs.map PyData.int)) = true := okT fun d hd => by
  obtain ⟨i, _, rfl⟩ := List.mem_map.mp hd
  exact ok_int i
section
variable {P : Program} {w : World} {K : PySem.W.Frag} {mg : Str → Option Value} {base : Heap}
end
end Dl
namespace Dl
open PySem PySem.Spec PyProof.Rows L2 Rt
def SBrL : Sem (Wd × Tb × Nat × Sr) where
  enc := fun (X, t, j, _) => [X.d, tbD t, .int (j : Nat)]
  ok := fun (X, t, j, r) => X.ok ∧ tbOk X t ∧ X.ss[j]? = some r
  out := fun (X, t, _, r) => .bool (brL X t r)
  fn := fun {x y} hx hy e => by
    obtain ⟨X, t, j, r⟩ := x
    obtain ⟨X', t', j', r'⟩ := y
    injection e with e1 e
    injection e with e2 e
    injection e with e3 e
    cases Wd.inj e1
    cases tbD.inj e2
    cases nat_i e3
    cases hx.2.2.symm.trans hy.2.2
    rfl
def SMdL : Sem (Wd × Tb × Nat × Wy × Int × List Int) where
  enc := fun (X, t, j, _, p, as) => [X.d, tbD t, .int (j : Nat), .int p, .tuple (as.map .int)]
  ok := fun (X, t, j, y, p, as) => X.ok ∧ tbOk X t ∧ X.ws[j]? = some y ∧ as.length = y.ps.length ∧ ∀ a ∈ as, 0 ≤ a
  out := fun (X, t, _, y, p, as) => .bool (mdL X t y p as)
  fn := fun {x y} hx hy e => by
    obtain ⟨X, t, j, r, p, as⟩ := x
    obtain ⟨X', t', j', r', p', as'⟩ := y
    injection e with e1 e
    injection e with e2 e
    injection e with e3 e
    injection e with e4 e
    injection e with e5 e
    cases Wd.inj e1
    cases tbD.inj e2
    cases nat_i e3
    cases int_i e4
    cases tup_inj int_i e5
    cases hx.2.2.1.symm.trans hy.2.2.1
    rfl
def S3 (g : Wd → Tb → D → D) : Sem (Wd × Tb × D) where
  enc := fun (X, t, d) => [X.d, tbD t, d]
  ok := fun (X, t, d) => X.ok ∧ tbOk X t ∧ gq d = true
  out := fun (X, t, d) => g X t d
  fn := fun {x y} _ _ e => by
    obtain ⟨X, t, d⟩ := x
    obtain ⟨X', t', d'⟩ := y
    injection e with e1 e
    injection e with e2 e
    injection e with e3 e
    cases Wd.inj e1
    cases tbD.inj e2
    cases e3
    rfl
def SLek : Sem (Wd × Tb × D) := S3 fun X t d => .bool (leakB X t d)
theorem ch_non {y : Wy} {a b : D} (h : isNum a = false) : chO y a b = none := by
  cases a <;> first | rfl | cases h
theorem ch_row {y : Wy} {p : Int} {b : D} (h : isRow y.ps.length y.ps.length b = false) : chO y (.int p) b = none := by
  cases b with
  | tuple ds =>
    rw [row_len] at h
    show (if chB y p ds = true then (intsD ds).map fun as => (p, as) else none) = none
    refine if_neg fun c => ?_
    have c := Bool.and_eq_true_iff.mp (show (y.hs.any (· == p) && _) = true from c)
    have c2 := Bool.and_eq_true_iff.mp c.2
    rw [h] at c2
    exact Bool.false_ne_true c2.1
  | none | bool _ | int _ | str _ | list _ | dict _ => rfl
theorem ch_hrs {y : Wy} {p : Int} {b : D} (h : y.hs.any (· == p) = false) : chO y (.int p) b = none := by
  cases b with
  | tuple ds =>
    show (if chB y p ds = true then (intsD ds).map fun as => (p, as) else none) = none
    refine if_neg fun c => ?_
    have c := Bool.and_eq_true_iff.mp (show (y.hs.any (· == p) && _) = true from c)
    rw [h] at c
    exact Bool.false_ne_true c.1
  | none | bool _ | int _ | str _ | list _ | dict _ => rfl
section
variable {P : Program} {w : World} {K : PySem.W.Frag} {mg : Str → Option Value} {base : Heap}
theorem ok_brL {f : Addr} {fd : FuncData} (F : Fun K "is_brought_leak" "is_brought_leak" s_is_brought_leak f fd) (C_has : Cl P w K mg base 2 "has" ["world", "table", "kind", "origin", "age"] (spD 5 SHas.f)) (C_first_of : Cl P w K mg base 2 "first_of" ["world", "source"] (spD 2 SFst.f)) : FnOk P w K mg base CX0 3 f fd ["world", "table", "source"] (spD 3 SBrL.f) := by
  refine okFn F sc_is_brought_leak rfl fun cdv A outer s H E hr => ⟨_, (dSs_cons (dS_asg (K := K) (p := (.tp (.cons (.nm 3) (.cons (.nm 4) (.cons (.nm 5) (.cons (.nm 6) (.cons (.nm 7) .nil))))))) (ps_asg (dE_ix (dE_ix (dE_var (μ := true) (pv 0)) (dE_c (μ := true) pe_int)) (dE_var (μ := true) (pv 2))) (pg_tup (by rfl) (pgs_cons (pg_name (i := 3) sc_is_brought_leak.nd rfl (.inl rfl)) (pgs_cons (pg_name (i := 4) sc_is_brought_leak.nd rfl (.inl rfl)) (pgs_cons (pg_name (i := 5) sc_is_brought_leak.nd rfl (.inl rfl)) (pgs_cons (pg_name (i := 6) sc_is_brought_leak.nd rfl (.inl rfl)) (pgs_cons (pg_name (i := 7) sc_is_brought_leak.nd rfl (.inl rfl)) pgs_nil))))))))
  (dSs_one (dS_ret (ps_ret (dE_not (dE_cl C_has (hr.mono (by omega)) (by rfl) (dA_cons (dE_var (μ := true) (pv 0)) (dA_cons (dE_var (μ := true) (pv 1)) (dA_cons (dE_var (μ := true) (pv 3)) (dA_cons (dE_op o_sub (dE_cl C_first_of (hr.mono (by omega)) (by rfl) (dA_cons (dE_var (μ := true) (pv 0)) (dA_cons (dE_var (μ := true) (pv 2)) (dA_nil (μ := true))))) (dE_var (μ := true) (pv 4))) (dA_cons (dE_var (μ := true) (pv 4)) (dA_nil (μ := true))))))))))))), fun ds d l e => ?_⟩
  obtain ⟨⟨X, t, j, r⟩, ⟨hX, ht, g⟩, rfl, rfl⟩ := Sem.get e
  refine ⟨.rt (.bool (brL X t r)), ?_, rfl⟩
  have hr' := hX.ss r (List.mem_of_getElem? g)
  refine (ev_asg (d := r.d) (ρ' := [some (.dat X.d), some (.dat (tbD t)), some (.dat (.int j)), some (.dat (.str r.k)), some (.dat (.int r.a)), some (.dat (.int r.p)), some (.dat (.int r.s)), some (.dat (.int r.m))]) (ev_e2 (a := .tuple (X.ss.map Sr.d)) (b := .int j) rfl rfl (at_map g)) rfl).trans ?_
  refine ev_ret ?_
  have eh := ev_call (n := 5) (g := SHas.f) (ρ := [some (.dat X.d), some (.dat (tbD t)), some (.dat (.int j)), some (.dat (.str r.k)), some (.dat (.int r.a)), some (.dat (.int r.p)), some (.dat (.int r.s)), some (.dat (.int r.m))]) (f := aCons (eVar 0) (aCons (eVar 1) (aCons (eVar 3) (aCons (e2 subD (eCall (gN 2 SFst.f) (aCons (eVar 0) (aCons (eVar 2) aNil))) (eVar 4)) (aCons (eVar 4) aNil))))) (ds := [X.d, tbD t, .str r.k, .int (r.s + (r.p - r.s) % X.n - r.a), .int r.a]) (ev_cons rfl (ev_cons rfl (ev_cons rfl (ev_cons (ev_e2 (a := .int (r.s + (r.p - r.s) % X.n)) (b := .int r.a) (ev_call rfl rfl (Sem.of (S := SFst) (x := (X, j, r)) ⟨hX, g⟩)) rfl rfl) rfl)))) rfl (Sem.of (S := SHas) (x := (X, t, r.k, _, r.a)) ⟨hX, ht, hr'.k, hr'.a0⟩)
  exact (congrArg (fun o : Option D => (o.bind bB).map fun b => PyData.bool (!b)) eh).trans rfl
end
end Dl
namespace Dl
open PySem PySem.Spec PyProof.Rows L2 Rt
theorem brF_get {X : Wd} {d : D} {j : Nat} {r : Sr} (h : brF X d = some (j, r)) : d = .tuple [S "brought", .int j] ∧ X.ss[j]? = some r := by
  unfold brF at h
  split at h
  · rename_i z i
    by_cases c : z = Str.ofString "brought" ∧ 0 ≤ i
    · rw [if_pos c] at h
      obtain ⟨r', e, e2⟩ := some_map h
      injection e2 with e3 e4
      subst e3
      subst e4
      obtain ⟨rfl, h0⟩ := c
      exact ⟨by rw [show ((i.toNat : Nat) : Int) = i by omega]; rfl, e⟩
    · rw [if_neg c] at h
      cases h
  · cases h
theorem chB_get {y : Wy} {ks : List Str} {n : Int} (hy : y.ok n ks) {p : Int} {ds : List D} (c : chB y p ds = true) : ∃ as : List Int, ds = as.map .int ∧ intsD ds = some as ∧ as.length = y.ps.length ∧ (∀ a ∈ as, 0 ≤ a) ∧ y.hs.any (· == p) = true ∧ ∀ z ∈ as.zip y.ps, z.2.l ≤ z.1 ∧ z.1 ≤ z.2.g := by
  have c := Bool.and_eq_true_iff.mp (show (y.hs.any (· == p) && _) = true from c)
  have c2 := Bool.and_eq_true_iff.mp c.2
  obtain ⟨as, e1, e2, e3, e4⟩ := ints_from (of_decide_eq_true c2.1) c2.2
  refine ⟨as, e1, e2, e3, fun a ha => ?_, c.1, e4⟩
  obtain ⟨k, hk⟩ := List.getElem?_of_mem ha
  have hl : k < as.length := by
    by_cases z : k < as.length
    · exact z
    · rw [List.getElem?_eq_none (by omega)] at hk
      cases hk
  obtain ⟨q, hq⟩ : ∃ q, y.ps[k]? = some q := ⟨_, List.getElem?_eq_getElem (by omega)⟩
  have hm : (a, q) ∈ as.zip y.ps := by
    refine List.mem_of_getElem? (i := k) ?_
    rw [List.getElem?_zip_eq_some]
    exact ⟨hk, hq⟩
  have h1 : q.l ≤ a := (e4 _ hm).1
  have h2 := (hy.ps q (List.mem_of_getElem? hq)).l0
  omega
theorem ch_get {y : Wy} {ks : List Str} {n : Int} (hy : y.ok n ks) {pl ag : D} {p : Int} {as : List Int} (h : chO y pl ag = some (p, as)) : pl = .int p ∧ ag = .tuple (as.map .int) ∧ as.length = y.ps.length ∧ ∀ a ∈ as, 0 ≤ a := by
  unfold chO at h
  split at h
  · rename_i p' ds
    by_cases c : chB y p' ds = true
    · rw [if_pos c] at h
      obtain ⟨as', e, e2⟩ := some_map h
      obtain ⟨bs, b1, b2, b3, b4, _⟩ := chB_get hy c
      injection e2 with e3 e4
      have e5 : bs = as := by
        rw [b2] at e
        injection e with e
        rw [e, e4]
      rw [e5] at b1 b3 b4
      exact ⟨by rw [e3], by rw [b1], b3, b4⟩
    · rw [if_neg c] at h
      cases h
  · cases h
theorem mdF_get {X : Wd} (hX : X.ok) {d : D} {j : Nat} {y : Wy} {p : Int} {as : List Int} (h : mdF X d = some (j, y, p, as)) : d = .tuple [S "made", .int j, .int p, .tuple (as.map .int)] ∧ X.ws[j]? = some y ∧ as.length = y.ps.length ∧ ∀ a ∈ as, 0 ≤ a := by
  unfold mdF at h
  split at h
  · rename_i z i pl ag
    by_cases c : z = Str.ofString "made" ∧ 0 ≤ i
    · rw [if_pos c] at h
      obtain ⟨y', ey, h⟩ := some_bind h
      obtain ⟨q, e, e2⟩ := some_map h
      injection e2 with e3 e4
      injection e4 with e4 e5
      injection e5 with e5 e6
      subst e3
      subst e4
      subst e5
      subst e6
      obtain ⟨rfl, h0⟩ := c
      obtain ⟨rfl, rfl, e3, e4⟩ := ch_get (hX.ws _ (List.mem_of_getElem? ey)) e
      exact ⟨by rw [show ((i.toNat : Nat) : Int) = i by omega]; rfl, ey, e3, e4⟩
    · rw [if_neg c] at h
      cases h
  · cases h
theorem okCel (zs : List (Option Int)) : okD (.list (zs.map celD)) = true := okL fun d hd => by
  obtain ⟨c, _, rfl⟩ := List.mem_map.mp hd
  cases c
  · exact ⟨rfl, Nat.zero_le _⟩
  · exact ok_int _
theorem any_cel (zs : List (Option Int)) : ((zs.map celD).any fun z => PyData.eqv z .none) = zs.any (·.isNone) := by
  rw [List.any_map]
  congr 1
  funext c
  cases c <;> rfl
section
variable {P : Program} {w : World} {K : PySem.W.Frag} {mg : Str → Option Value} {base : Heap}
theorem ok_mdL {f : Addr} {fd : FuncData} (F : Fun K "is_made_leak" "is_made_leak" s_is_made_leak f fd) (m_max : mg "max" = none) (m_zip : mg "zip" = none) (C_first_there : Cl P w K mg base 2 "first_there" ["world", "table", "kind", "place", "age"] (spD 5 SThr.f)) (C_bears : Cl P w K mg base 1 "bears" ["world", "way", "moment", "origins"] (spD 4 SBea.f)) (C_has : Cl P w K mg base 2 "has" ["world", "table", "kind", "origin", "age"] (spD 5 SHas.f)) : FnOk P w K mg base CX0 3 f fd ["world", "table", "way", "place", "ages"] (spD 5 SMdL.f) := by
  refine okFn F sc_is_made_leak rfl fun cdv A outer s H E hr => ⟨_, (dSs_cons (dS_asg (K := K) (p := (.tp (.cons (.nm 5) (.cons (.nm 6) (.cons (.nm 7) (.cons (.nm 8) (.cons (.nm 9) .nil))))))) (ps_asg (dE_ix (dE_ix (dE_var (μ := true) (pv 0)) (dE_c (μ := true) pe_int)) (dE_var (μ := true) (pv 2))) (pg_tup (by rfl) (pgs_cons (pg_name (i := 5) sc_is_made_leak.nd rfl (.inl rfl)) (pgs_cons (pg_name (i := 6) sc_is_made_leak.nd rfl (.inl rfl)) (pgs_cons (pg_name (i := 7) sc_is_made_leak.nd rfl (.inl rfl)) (pgs_cons (pg_name (i := 8) sc_is_made_leak.nd rfl (.inl rfl)) (pgs_cons (pg_name (i := 9) sc_is_made_leak.nd rfl (.inl rfl)) pgs_nil))))))))
  (dSs_cons (dS_lc (K := K) (p := (.tp (.cons (.nm 14) (.cons (.nm 15) .nil)))) (ps_setLc (i := 10) (own := [("part", 14), ("age", 15)]) (g := gP K (.tp (.cons (.nm 14) (.cons (.nm 15) .nil)))) rfl sc_is_made_leak.nd rfl rfl (sw_true rfl rfl rfl (by decide +kernel)) (dI_zip (by rfl) m_zip (dA_cons (dE_var (μ := true) (pv 6)) (dA_cons (dE_var (μ := true) (pv 4)) (dA_nil (μ := true))))) (blkOk_by (own := [("part", 14), ("age", 15)]) (N := ["world", "table", "way", "place", "ages", "kind", "parts", "keeps", "hours", "wait", "moments", "moment", "origin", "born", "part", "age"]) (sc := defScope s_is_made_leak) (by decide +kernel)) (fun _ _ _ _ _ => (pg_tup (by rfl) (pgs_cons (pg_name (i := 14) sc_is_made_leak.nd rfl (.inl rfl)) (pgs_cons (pg_name (i := 15) sc_is_made_leak.nd rfl (.inl rfl)) pgs_nil)))) (fun _ _ _ _ _ => dTs_nil) (fun _ _ _ _ _ => (dE_cl C_first_there (hr.mono (by omega)) (by rfl) (dA_cons (dE_var (μ := true) (pv 0)) (dA_cons (dE_var (μ := true) (pv 1)) (dA_cons (dE_ix (dE_var (μ := true) (pv 14)) (dE_c (μ := true) pe_int)) (dA_cons (dE_var (μ := true) (pv 3)) (dA_cons (dE_var (μ := true) (pv 15)) (dA_nil (μ := true)))))))))))
  (dSs_cons (dS_if (dT_cmp (o_in (u65 hr)) (dE_c (μ := true) pe_non) (dE_var (μ := true) (pv 10)) (by rfl))
    (dSs_one (dS_ret (ps_ret (dE_c (μ := true) pe_bl))))
    dSs_nil)
  (dSs_cons (dS_asg (K := K) (p := .nm 11) (ps_set (i := 11) sc_is_made_leak.nd rfl (.inr rfl) (dE_callB (c_maxL rfl) (by rfl) m_max (by decide +kernel) (dA_cons (dE_var (μ := true) (pv 10)) (dA_nil (μ := true))))))
  (dSs_cons (dS_asg (K := K) (p := (.tp (.cons (.nm 12) (.cons (.nm 13) .nil)))) (ps_asg (dE_cl C_bears (hr.mono (by omega)) (by rfl) (dA_cons (dE_var (μ := true) (pv 0)) (dA_cons (dE_var (μ := true) (pv 2)) (dA_cons (dE_var (μ := true) (pv 11)) (dA_cons (dE_lc (K := K) (p := (.nm 15)) (pe_lc (own := [("age", 15)]) (g := gP K (.nm 15)) rfl sc_is_made_leak.nd (dI_seq (dE_var (μ := true) (pv 4))) (blkOk_by (own := [("age", 15)]) (N := ["world", "table", "way", "place", "ages", "kind", "parts", "keeps", "hours", "wait", "moments", "moment", "origin", "born", "part", "age"]) (sc := defScope s_is_made_leak) (by decide +kernel)) (fun _ _ _ _ _ => (pg_name (i := 15) sc_is_made_leak.nd rfl (.inl rfl))) (fun _ _ _ _ _ => dTs_nil) (fun _ _ _ _ _ => (dE_op o_sub (dE_var (μ := true) (pv 11)) (dE_var (μ := true) (pv 15)))))) (dA_nil (μ := true))))))) (pg_tup (by rfl) (pgs_cons (pg_name (i := 12) sc_is_made_leak.nd rfl (.inl rfl)) (pgs_cons (pg_name (i := 13) sc_is_made_leak.nd rfl (.inl rfl)) pgs_nil)))))
  (dSs_one (dS_ret (ps_ret (dE_not (dE_cl C_has (hr.mono (by omega)) (by rfl) (dA_cons (dE_var (μ := true) (pv 0)) (dA_cons (dE_var (μ := true) (pv 1)) (dA_cons (dE_var (μ := true) (pv 5)) (dA_cons (dE_var (μ := true) (pv 12)) (dA_cons (dE_op o_sub (dE_var (μ := true) (pv 13)) (dE_var (μ := true) (pv 12))) (dA_nil (μ := true))))))))))))))))), fun ds d l e => ?_⟩
  obtain ⟨⟨X, t, j, y, p, as⟩, ⟨hX, ht, g, hl, h0⟩, rfl, rfl⟩ := Sem.get e
  refine ⟨.rt (.bool (mdL X t y p as)), ?_, rfl⟩
  have hy := hX.ws y (List.mem_of_getElem? g)
  let R : Option LV → Option LV → Option LV → Option LV → Rho := fun a b c d => [some (.dat X.d), some (.dat (tbD t)), some (.dat (.int j)), some (.dat (.int p)), some (.dat (.tuple (as.map .int))), some (.dat (.str y.k)), some (.dat (.tuple (y.ps.map Pt.d))), some (.dat (.str y.kp)), some (.dat (.tuple (y.hs.map .int))), some (.dat (.int y.w)), a, b, c, d, none, none]
  refine (ev_asg (d := y.d) (ρ' := R none none none none) (ev_e2 (a := .tuple (X.ws.map Wy.d)) (b := .int j) rfl rfl (at_map g)) rfl).trans ?_
  let zs : List (Option Int) := (y.ps.zip as).map fun z => fstC X t z.1.k p z.2
  refine (ev_asg (d := .list (zs.map celD)) (ρ' := R (some (.dat (.list (zs.map celD)))) none none none) (ev_lcE (items := zpGo (y.ps.map Pt.d) (as.map .int)) rfl ?_) rfl).trans ?_
  · rw [zp_map, List.map_map]
    refine ev_lcG (t := celD ∘ fun z : Pt × Int => fstC X t z.1.k p z.2) _ fun z hz => ⟨_, rfl, ev_call (ds := [X.d, tbD t, .str z.1.k, .int p, .int z.2]) rfl rfl (Sem.of (S := SThr) (x := (X, t, z.1.k, p, z.2)) ⟨hX, ht, ?_, ?_⟩)⟩
    · exact (hy.ps _ (List.of_mem_zip hz).1).k
    · exact h0 _ (List.of_mem_zip hz).2
  have ein : inD .none (.list (zs.map celD)) = some (.bool (zs.any (·.isNone))) := by
    rw [← any_cel]
    exact if_pos (Bool.and_eq_true_iff.mpr ⟨rfl, okCel zs⟩)
  refine (ev_guard (b := zs.any (·.isNone)) (by exact ev_oB (ev_e2 (a := .none) (b := .list (zs.map celD)) rfl rfl ein)) rfl).trans ?_
  obtain ⟨o, ho⟩ : ∃ o, ownO y as = some o := own_ex (by have := hy.p1; omega)
  rcases mo_eq (X := X) (t := t) (p := p) y.ps as p (Int.le_refl p) with ⟨ns, h1, h2, h3⟩ | ⟨h1, h2⟩
  · have h1 : zs = ns.map some := h1
    have ea : zs.any (·.isNone) = false := by
      rw [h1, List.any_map]
      exact List.any_eq_false.mpr fun x _ => by simp
    have ez : zs.map celD = ns.map .int := by
      rw [h1, List.map_map]
      rfl
    rw [ea, ez]
    have nl : ns.length = y.ps.length := by
      have := congrArg List.length h1
      rw [List.length_map, List.length_map, List.length_zip] at this
      omega
    obtain ⟨n0, ns', rfl⟩ : ∃ n0 ns', ns = n0 :: ns' := by
      cases ns with
      | nil => have := hy.p1; rw [← nl] at this; cases this
      | cons a b => exact ⟨a, b, rfl⟩
    let m : Int := ns'.foldl (fun a b => if b > a then b else a) n0
    have em : mo X t p y.ps as p = some m := by
      rw [h2]
      show some (ns'.foldl _ (if n0 > p then n0 else p)) = _
      have := h3 n0 (by simp)
      rw [show (if n0 > p then n0 else p) = n0 by split <;> omega]
    have emd : mdL X t y p as = !hasC X t y.k (m - o) (o + y.w) := by
      unfold mdL
      rw [em, ho]
    rw [emd]
    have emx : maxLD [.list ((n0 :: ns').map .int)] = some (.int m) := by
      show ((intsD ((n0 :: ns').map PyData.int)).bind mostI).map _ = _
      rw [intsD.map]
      rfl
    refine (ev_asg (d := .int m) (ρ' := R (some (.dat (.list ((n0 :: ns').map .int)))) (some (.dat (.int m))) none none) emx rfl).trans ?_
    have eb : SBea.f [X.d, .int j, .int m, .list (as.map fun a => .int (m - a))] = some (.tuple [.int (m - o), .int (m + y.w)]) := by
      have := Sem.of (S := SBea) (x := (X, j, y, m, as.map (fun a => m - a), m - o)) ⟨hX, g, own_org ho⟩
      have e2 : SBea.enc (X, j, y, m, as.map (fun a => m - a), m - o) = [X.d, .int j, .int m, .list (as.map fun a => .int (m - a))] := by
        show [X.d, PyData.int j, .int m, .list ((as.map (fun a => m - a)).map .int)] = _
        rw [List.map_map]
        rfl
      rw [e2] at this
      exact this
    refine (ev_asg (d := .tuple [.int (m - o), .int (m + y.w)]) (ρ' := R (some (.dat (.list ((n0 :: ns').map .int)))) (some (.dat (.int m))) (some (.dat (.int (m - o)))) (some (.dat (.int (m + y.w))))) (ev_call (ds := [X.d, .int j, .int m, .list (as.map fun a => .int (m - a))]) (ev_cons rfl (ev_cons rfl (ev_cons rfl (ev_cons (ev_lcE (items := as.map .int) rfl (ev_lcG (t := fun a => .int (m - a)) as fun z hz => ⟨_, rfl, rfl⟩)) rfl)))) rfl eb) rfl).trans ?_
    refine ev_ret ?_
    have o0 := own_ge ho h0
    have w0 := hy.w0
    have ew : (m + y.w) - (m - o) = o + y.w := by omega
    have eh := ev_call (n := 5) (g := SHas.f) (ρ := R (some (.dat (.list ((n0 :: ns').map .int)))) (some (.dat (.int m))) (some (.dat (.int (m - o)))) (some (.dat (.int (m + y.w))))) (f := aCons (eVar 0) (aCons (eVar 1) (aCons (eVar 5) (aCons (eVar 12) (aCons (e2 subD (eVar 13) (eVar 12)) aNil))))) (ds := [X.d, tbD t, .str y.k, .int (m - o), .int ((m + y.w) - (m - o))]) rfl rfl (by rw [ew]; exact Sem.of (S := SHas) (x := (X, t, y.k, m - o, o + y.w)) ⟨hX, ht, hy.k, by omega⟩)
    exact (congrArg (fun o : Option D => (o.bind bB).map fun b => PyData.bool (!b)) eh).trans rfl
  · have ea : zs.any (·.isNone) = true := List.any_eq_true.mpr ⟨none, h1, rfl⟩
    rw [ea]
    have : mdL X t y p as = false := by
      unfold mdL
      rw [h2]
    rw [this]
    rfl
end
end Dl
namespace Dl
open PySem PySem.Spec PyProof.Rows L2 Rt
/-! ### what the law holds against it -/
def SBrt : Sem (Wd × Sr) where
  enc := fun (X, r) => [X.d, r.d]
  ok := fun (X, _) => X.ok
  out := fun (X, r) => .tuple [.str r.k, .int (r.s + (r.p - r.s) % X.n - r.a), .int r.a]
  fn := fun {x y} _ _ e => by
    obtain ⟨X, r⟩ := x
    obtain ⟨X', r'⟩ := y
    injection e with e1 e
    injection e with e2 e
    cases Wd.inj e1
    cases Sr.inj e2
    rfl
def thD : Option (Str × Int × Int) → D
  | none => .none
  | some (k, o, a) => .tuple [.str k, .int o, .int a]
theorem thD.inj {x y : Option (Str × Int × Int)} (h : thD x = thD y) : x = y := by
  match x, y, h with
  | none, none, _ => rfl
  | none, some (_, _, _), h => nomatch h
  | some (_, _, _), none, h => nomatch h
  | some (_, _, _), some (_, _, _), h => cases h; rfl
def mdT (X : Wd) (t : Tb) (y : Wy) (p : Int) (as : List Int) : Option (Str × Int × Int) := match mo X t p y.ps as p, ownO y as with
  | some m, some o => some (y.k, m - o, o + y.w)
  | _, _ => none
def lkB (X : Wd) (t : Tb) : Option (Str × Int × Int) → Bool
  | none => false
  | some (k, o, a) => !hasC X t k o a
theorem lk_md {X : Wd} {t : Tb} {y : Wy} {p : Int} {as : List Int} : lkB X t (mdT X t y p as) = mdL X t y p as := by
  unfold mdT mdL
  cases mo X t p y.ps as p <;> cases ownO y as <;> rfl
def SMdT : Sem (Wd × Tb × Wy × Int × List Int) where
  enc := fun (X, t, y, p, as) => [X.d, tbD t, y.d, .int p, .tuple (as.map .int)]
  ok := fun (X, t, y, p, as) => X.ok ∧ tbOk X t ∧ y ∈ X.ws ∧ as.length = y.ps.length ∧ ∀ a ∈ as, 0 ≤ a
  out := fun (X, t, y, p, as) => thD (mdT X t y p as)
  fn := fun {x y} _ _ e => by
    obtain ⟨X, t, r, p, as⟩ := x
    obtain ⟨X', t', r', p', as'⟩ := y
    injection e with e1 e
    injection e with e2 e
    injection e with e3 e
    injection e with e4 e
    injection e with e5 e
    cases Wd.inj e1
    cases tbD.inj e2
    cases Wy.inj e3
    cases int_i e4
    cases tup_inj int_i e5
    rfl
def SLkd : Sem (Wd × Tb × Option (Str × Int × Int)) where
  enc := fun (X, t, th) => [X.d, tbD t, thD th]
  ok := fun (X, t, th) => X.ok ∧ tbOk X t ∧ ∀ k o a, th = some (k, o, a) → k ∈ X.ks ∧ 0 ≤ a
  out := fun (X, t, th) => .bool (lkB X t th)
  fn := fun {x y} _ _ e => by
    obtain ⟨X, t, r⟩ := x
    obtain ⟨X', t', r'⟩ := y
    injection e with e1 e
    injection e with e2 e
    injection e with e3 e
    cases Wd.inj e1
    cases tbD.inj e2
    cases thD.inj e3
    rfl
theorem mo_for {X : Wd} {t : Tb} {p : Int} {pt : Pat} {body : Rho → Option Out} {R : Int → Option LV → Option LV → Option LV → Rho} (hb : ∀ (q : Pt) (a m : Int) x y z, q.k ∈ X.ks → 0 ≤ a → ∃ ρ1, bindP pt (.tuple [q.d, .int a]) (R m x y z) = some ρ1 ∧ ((cl X t q.k (p - a) a = none ∧ body ρ1 = some (.rt .none)) ∨ ∃ i, cl X t q.k (p - a) a = some i ∧ ∃ x' y' z', body ρ1 = some (.nx (R (if i + a > m then i + a else m) x' y' z')))) : ∀ (ps : List Pt) (as : List Int) (m : Int) x y z, (∀ q ∈ ps, q.k ∈ X.ks) → (∀ a ∈ as, 0 ≤ a) → (mo X t p ps as m = none ∧ forGo pt body (zpGo (ps.map Pt.d) (as.map .int)) (R m x y z) = some (.rt .none)) ∨ ∃ m', mo X t p ps as m = some m' ∧ ∃ x' y' z', forGo pt body (zpGo (ps.map Pt.d) (as.map .int)) (R m x y z) = some (.nx (R m' x' y' z'))
  | [], as, m, x, y, z, _, _ => .inr ⟨m, by unfold mo; rfl, x, y, z, by cases as <;> rfl⟩
  | q :: ps, [], m, x, y, z, _, _ => .inr ⟨m, by unfold mo; rfl, x, y, z, rfl⟩
  | q :: ps, a :: as, m, x, y, z, hq, ha => by
    obtain ⟨ρ1, e1, h⟩ := hb q a m x y z (hq q (by simp)) (ha a (by simp))
    rcases h with ⟨hc, h⟩ | ⟨i, hc, x', y', z', h⟩
    · refine .inl ⟨?_, ev_forR e1 h⟩
      show (cl X t q.k (p - a) a).bind _ = none
      rw [hc]
      rfl
    · have em : mo X t p (q :: ps) (a :: as) m = mo X t p ps as (if i + a > m then i + a else m) := by
        show (cl X t q.k (p - a) a).bind _ = _
        rw [hc]
        rfl
      have ef : forGo pt body (zpGo ((q :: ps).map Pt.d) ((a :: as).map .int)) (R m x y z) = forGo pt body (zpGo (ps.map Pt.d) (as.map .int)) (R (if i + a > m then i + a else m) x' y' z') := ev_forC e1 h
      rw [em, ef]
      exact mo_for hb ps as _ x' y' z' (fun q h => hq q (by simp [h])) (fun a h => ha a (by simp [h]))
section
variable {P : Program} {w : World} {K : PySem.W.Frag} {mg : Str → Option Value} {base : Heap}
theorem ok_std {f : Addr} {fd : FuncData} (F : Fun K "_law_stands" "_law_stands" s_law_stands f fd) (m_min : mg "min" = none) : FnOk P w K mg base CX0 1 f fd ["_law_world_here", "_law_sheet", "_law_kind", "_law_place", "_law_age"] (spD 5 SStd.f) := by
  refine okFn F sc_law_stands rfl fun cdv A outer s H E hr => ⟨_, (dSs_one (dS_ret (ps_ret (dE_ix (dE_ix (dE_ix (dE_var (μ := true) (pv 1)) (dE_idx (dE_ix (dE_var (μ := true) (pv 0)) (dE_c (μ := true) pe_int)) (dE_var (μ := true) (pv 2)))) (dE_op o_mod (dE_var (μ := true) (pv 3)) (dE_ix (dE_var (μ := true) (pv 0)) (dE_c (μ := true) pe_int)))) (dE_callB (c_min2 rfl) (by rfl) m_min (by decide +kernel) (dA_cons (dE_var (μ := true) (pv 4)) (dA_cons (dE_c (μ := true) pe_int) (dA_nil (μ := true))))))))), fun ds d l e => ?_⟩
  obtain ⟨⟨X, t, k, p, a⟩, ⟨hX, ht, hk, h0⟩, rfl, rfl⟩ := Sem.get e
  exact ⟨.rt (celD (cl X t k p a)), ev_ret (ev_cell (p := p) hX ht hk h0 rfl rfl rfl (ev_e2 (a := .int p) (b := .int X.n) rfl rfl (if_pos (by have := hX.n1; omega))) rfl), rfl⟩
theorem ok_hasL {f : Addr} {fd : FuncData} (F : Fun K "_law_has" "_law_has" s_law_has f fd) (C__law_stands : Cl P w K mg base 1 "_law_stands" ["_law_world_here", "_law_sheet", "_law_kind", "_law_place", "_law_age"] (spD 5 SStd.f)) : FnOk P w K mg base CX0 2 f fd ["_law_world_here", "_law_sheet", "_law_kind", "_law_origin_here", "_law_age"] (spD 5 SHas.f) := by
  refine okFn F sc_law_has rfl fun cdv A outer s H E hr => ⟨_, (dSs_cons (dS_asg (K := K) (p := .nm 5) (ps_set (i := 5) sc_law_has.nd rfl (.inl rfl) (dE_cl C__law_stands (hr.mono (by omega)) (by rfl) (dA_cons (dE_var (μ := true) (pv 0)) (dA_cons (dE_var (μ := true) (pv 1)) (dA_cons (dE_var (μ := true) (pv 2)) (dA_cons (dE_var (μ := true) (pv 3)) (dA_cons (dE_var (μ := true) (pv 4)) (dA_nil (μ := true))))))))))
  (dSs_one (dS_ret (ps_ret (dE_and (dE_cmp o_isnot (dE_var (μ := true) (pv 5)) (dE_c (μ := true) pe_non) (nomark _)) (dE_one (dE_cmp o_le (dE_var (μ := true) (pv 5)) (dE_var (μ := true) (pv 3)) (nomark _)))))))), fun ds d l e => ?_⟩
  obtain ⟨⟨X, t, k, o, a⟩, ok, rfl, rfl⟩ := Sem.get e
  refine ⟨.rt (.bool (hasC X t k o a)), ?_, rfl⟩
  refine (ev_asg (d := celD (cl X t k o a)) (ρ' := [some (.dat X.d), some (.dat (tbD t)), some (.dat (.str k)), some (.dat (.int o)), some (.dat (.int a)), some (.dat (celD (cl X t k o a)))]) (ev_call (ds := [X.d, tbD t, .str k, .int o, .int a]) rfl rfl (Sem.of (S := SStd) (x := (X, t, k, o, a)) ok)) rfl).trans ?_
  refine ev_ret ?_
  unfold hasC
  cases cl X t k o a <;> rfl
theorem ok_brt {f : Addr} {fd : FuncData} (F : Fun K "_law_brought" "_law_brought" s_law_brought f fd) : FnOk P w K mg base CX0 1 f fd ["_law_world_here", "_law_source"] (spD 2 SBrt.f) := by
  refine okFn F sc_law_brought rfl fun cdv A outer s H E hr => ⟨_, (dSs_cons (dS_asg (K := K) (p := (.tp (.cons (.nm 2) (.cons (.nm 3) (.cons (.nm 4) (.cons (.nm 5) (.cons (.nm 6) .nil))))))) (ps_asg (dE_var (μ := true) (pv 1)) (pg_tup (by rfl) (pgs_cons (pg_name (i := 2) sc_law_brought.nd rfl (.inl rfl)) (pgs_cons (pg_name (i := 3) sc_law_brought.nd rfl (.inl rfl)) (pgs_cons (pg_name (i := 4) sc_law_brought.nd rfl (.inl rfl)) (pgs_cons (pg_name (i := 5) sc_law_brought.nd rfl (.inl rfl)) (pgs_cons (pg_name (i := 6) sc_law_brought.nd rfl (.inl rfl)) pgs_nil))))))))
  (dSs_one (dS_ret (ps_ret (dE_tup (dA_cons (dE_var (μ := true) (pv 2)) (dA_cons (dE_op o_sub (dE_op o_add (dE_var (μ := true) (pv 5)) (dE_op o_mod (dE_op o_sub (dE_var (μ := true) (pv 4)) (dE_var (μ := true) (pv 5))) (dE_ix (dE_var (μ := true) (pv 0)) (dE_c (μ := true) pe_int)))) (dE_var (μ := true) (pv 3))) (dA_cons (dE_var (μ := true) (pv 3)) (dA_nil (μ := true)))))))))), fun ds d l e => ?_⟩
  obtain ⟨⟨X, r⟩, hX, rfl, rfl⟩ := Sem.get e
  have hX : X.ok := hX
  refine ⟨.rt (.tuple [.str r.k, .int (r.s + (r.p - r.s) % X.n - r.a), .int r.a]), ?_, rfl⟩
  refine (ev_asg (d := r.d) (ρ' := [some (.dat X.d), some (.dat r.d), some (.dat (.str r.k)), some (.dat (.int r.a)), some (.dat (.int r.p)), some (.dat (.int r.s)), some (.dat (.int r.m))]) rfl rfl).trans ?_
  refine ev_ret (ev_tupX (ev_cons rfl (ev_cons (ev_e2 (a := .int (r.s + (r.p - r.s) % X.n)) (b := .int r.a) (ev_e2 (a := .int r.s) (b := .int ((r.p - r.s) % X.n)) rfl (ev_e2 (a := .int (r.p - r.s)) (b := .int X.n) rfl rfl (if_pos (by have := hX.n1; omega))) rfl) rfl rfl) rfl)) (by simp))
theorem ok_lkd {f : Addr} {fd : FuncData} (F : Fun K "_law_lacked" "_law_lacked" s_law_lacked f fd) (C__law_has : Cl P w K mg base 2 "_law_has" ["_law_world_here", "_law_sheet", "_law_kind", "_law_origin_here", "_law_age"] (spD 5 SHas.f)) : FnOk P w K mg base CX0 3 f fd ["_law_world_here", "_law_sheet", "_law_thing"] (spD 3 SLkd.f) := by
  refine okFn F sc_law_lacked rfl fun cdv A outer s H E hr => ⟨_, (dSs_one (dS_ret (ps_ret (dE_and (dE_cmp o_isnot (dE_var (μ := true) (pv 2)) (dE_c (μ := true) pe_non) (nomark _)) (dE_one (dE_not (dE_cl C__law_has (hr.mono (by omega)) (by rfl) (dA_cons (dE_var (μ := true) (pv 0)) (dA_cons (dE_var (μ := true) (pv 1)) (dA_cons (dE_ix (dE_var (μ := true) (pv 2)) (dE_c (μ := true) pe_int)) (dA_cons (dE_ix (dE_var (μ := true) (pv 2)) (dE_c (μ := true) pe_int)) (dA_cons (dE_ix (dE_var (μ := true) (pv 2)) (dE_c (μ := true) pe_int)) (dA_nil (μ := true)))))))))))))), fun ds d l e => ?_⟩
  obtain ⟨⟨X, t, th⟩, ⟨hX, ht, h⟩, rfl, rfl⟩ := Sem.get e
  refine ⟨.rt (.bool (lkB X t th)), ?_, rfl⟩
  refine ev_ret ?_
  cases th with
  | none => rfl
  | some q =>
    obtain ⟨k, o, a⟩ := q
    obtain ⟨hk, h0⟩ := h k o a rfl
    refine ev_and (b := true) rfl (fun _ => ?_) (fun c => by cases c)
    have eh := ev_call (n := 5) (g := SHas.f) (ρ := [some (.dat X.d), some (.dat (tbD t)), some (.dat (.tuple [.str k, .int o, .int a]))]) (f := aCons (eVar 0) (aCons (eVar 1) (aCons (e2 ixD (eVar 2) (eC (.int 0))) (aCons (e2 ixD (eVar 2) (eC (.int 1))) (aCons (e2 ixD (eVar 2) (eC (.int 2))) aNil))))) (ds := [X.d, tbD t, .str k, .int o, .int a]) rfl rfl (Sem.of (S := SHas) (x := (X, t, k, o, a)) ⟨hX, ht, hk, h0⟩)
    exact (congrArg (fun o : Option D => (o.bind bB).map fun b => PyData.bool (!b)) eh).trans rfl
theorem ok_made {f : Addr} {fd : FuncData} (F : Fun K "_law_made" "_law_made" s_law_made f fd) (m_min : mg "min" = none) (m_max : mg "max" = none) (m_zip : mg "zip" = none) (m_int : mg "int" = none) (C__law_stands : Cl P w K mg base 1 "_law_stands" ["_law_world_here", "_law_sheet", "_law_kind", "_law_place", "_law_age"] (spD 5 SStd.f)) : FnOk P w K mg base CX0 2 f fd ["_law_world_here", "_law_sheet", "_law_way_here", "_law_place", "_law_ages"] (spD 5 SMdT.f) := by
  refine okFn F sc_law_made rfl fun cdv A outer s H E hr => ⟨_, (dSs_cons (dS_asg (K := K) (p := (.tp (.cons (.nm 5) (.cons (.nm 6) (.cons (.nm 7) (.cons (.nm 8) (.cons (.nm 9) .nil))))))) (ps_asg (dE_var (μ := true) (pv 2)) (pg_tup (by rfl) (pgs_cons (pg_name (i := 5) sc_law_made.nd rfl (.inl rfl)) (pgs_cons (pg_name (i := 6) sc_law_made.nd rfl (.inl rfl)) (pgs_cons (pg_name (i := 7) sc_law_made.nd rfl (.inl rfl)) (pgs_cons (pg_name (i := 8) sc_law_made.nd rfl (.inl rfl)) (pgs_cons (pg_name (i := 9) sc_law_made.nd rfl (.inl rfl)) pgs_nil))))))))
  (dSs_cons (dS_asg (K := K) (p := .nm 10) (ps_set (i := 10) sc_law_made.nd rfl (.inl rfl) (dE_var (μ := true) (pv 3))))
  (dSs_cons (dS_for (K := K) (p := (.tp (.cons (.nm 11) (.cons (.nm 12) .nil)))) (ps_for PassesOwn.never rfl (dI_zip (by rfl) m_zip (dA_cons (dE_var (μ := true) (pv 6)) (dA_cons (dE_var (μ := true) (pv 4)) (dA_nil (μ := true))))) (pg_tup (by rfl) (pgs_cons (pg_name (i := 11) sc_law_made.nd rfl (.inl rfl)) (pgs_cons (pg_name (i := 12) sc_law_made.nd rfl (.inl rfl)) pgs_nil)))
    (dSs_cons (dS_asg (K := K) (p := .nm 13) (ps_set (i := 13) sc_law_made.nd rfl (.inl rfl) (dE_cl C__law_stands (hr.mono (by omega)) (by rfl) (dA_cons (dE_var (μ := true) (pv 0)) (dA_cons (dE_var (μ := true) (pv 1)) (dA_cons (dE_ix (dE_var (μ := true) (pv 11)) (dE_c (μ := true) pe_int)) (dA_cons (dE_op o_sub (dE_var (μ := true) (pv 3)) (dE_var (μ := true) (pv 12))) (dA_cons (dE_var (μ := true) (pv 12)) (dA_nil (μ := true))))))))))
  (dSs_cons (dS_if (dT_cmp o_is (dE_var (μ := true) (pv 13)) (dE_c (μ := true) pe_non) (nomark _))
    (dSs_one (dS_ret (ps_ret (dE_c (μ := true) pe_non))))
    dSs_nil)
  (dSs_one (dS_asg (K := K) (p := .nm 10) (ps_set (i := 10) sc_law_made.nd rfl (.inl rfl) (dE_callB (c_max2 rfl) (by rfl) m_max (by decide +kernel) (dA_cons (dE_var (μ := true) (pv 10)) (dA_cons (dE_op o_add (dE_var (μ := true) (pv 13)) (dE_var (μ := true) (pv 12))) (dA_nil (μ := true))))))))))))
  (dSs_cons (dS_asg (K := K) (p := .nm 14) (ps_set (i := 14) sc_law_made.nd rfl (.inl rfl) (dE_ix (dE_lst (dA_cons (dE_callB (c_minT rfl hr.units) (by rfl) m_min (by decide +kernel) (dA_cons (dE_var (μ := true) (pv 4)) (dA_nil (μ := true)))) (dA_cons (dE_callB (c_maxT rfl hr.units) (by rfl) m_max (by decide +kernel) (dA_cons (dE_var (μ := true) (pv 4)) (dA_nil (μ := true)))) (dA_nil (μ := true))))) (dE_callTy c_int (by rfl) m_int (by decide +kernel) (dA_cons (dE_cmp (o_eq hr.units) (dE_var (μ := true) (pv 7)) (dE_c (μ := true) pe_str) (nomark _)) (dA_nil (μ := true)))))))
  (dSs_one (dS_ret (ps_ret (dE_tup (dA_cons (dE_var (μ := true) (pv 5)) (dA_cons (dE_op o_sub (dE_var (μ := true) (pv 10)) (dE_var (μ := true) (pv 14))) (dA_cons (dE_op o_add (dE_var (μ := true) (pv 14)) (dE_var (μ := true) (pv 9))) (dA_nil (μ := true))))))))))))), fun ds d l e => ?_⟩
  obtain ⟨⟨X, t, y, p, as⟩, ⟨hX, ht, g, hl, h0⟩, rfl, rfl⟩ := Sem.get e
  refine ⟨.rt (thD (mdT X t y p as)), ?_, rfl⟩
  have hy := hX.ws y g
  let R : Option LV → Option LV → Option LV → Option LV → Option LV → Rho := fun m a b c d => [some (.dat X.d), some (.dat (tbD t)), some (.dat y.d), some (.dat (.int p)), some (.dat (.tuple (as.map .int))), some (.dat (.str y.k)), some (.dat (.tuple (y.ps.map Pt.d))), some (.dat (.str y.kp)), some (.dat (.tuple (y.hs.map .int))), some (.dat (.int y.w)), m, a, b, c, d]
  refine (ev_asg (d := y.d) (ρ' := R none none none none none) rfl rfl).trans ?_
  refine (ev_asg (d := .int p) (ρ' := R (some (.dat (.int p))) none none none none) rfl rfl).trans ?_
  obtain ⟨o, ho⟩ : ∃ o, ownO y as = some o := own_ex (by have := hy.p1; omega)
  have lp := mo_for (X := X) (t := t) (p := p) (R := fun m a b c => R (some (.dat (.int m))) a b c none) (pt := .tp (.cons (.nm 11) (.cons (.nm 12) .nil))) (body := sSeq (sAsg (.nm 13) (eCall (gN 5 SStd.f) (aCons (eVar 0) (aCons (eVar 1) (aCons (e2 ixD (eVar 11) (eC (.int 0))) (aCons (e2 subD (eVar 3) (eVar 12)) (aCons (eVar 12) aNil))))))) (sSeq (sIf (oB (e2 isND (eVar 13) (eC .none))) (sRet (eC .none)) sNil) (sAsg (.nm 10) (eCall max2D (aCons (eVar 10) (aCons (e2 addD (eVar 13) (eVar 12)) aNil)))))) (by
    intro q a m x y' z hq ha
    refine ⟨R (some (.dat (.int m))) (some (.dat q.d)) (some (.dat (.int a))) z none, rfl, ?_⟩
    have es : sSeq (sAsg (.nm 13) (eCall (gN 5 SStd.f) (aCons (eVar 0) (aCons (eVar 1) (aCons (e2 ixD (eVar 11) (eC (.int 0))) (aCons (e2 subD (eVar 3) (eVar 12)) (aCons (eVar 12) aNil))))))) (sSeq (sIf (oB (e2 isND (eVar 13) (eC .none))) (sRet (eC .none)) sNil) (sAsg (.nm 10) (eCall max2D (aCons (eVar 10) (aCons (e2 addD (eVar 13) (eVar 12)) aNil))))) (R (some (.dat (.int m))) (some (.dat q.d)) (some (.dat (.int a))) z none) = _ := ev_asg (d := celD (cl X t q.k (p - a) a)) (ρ' := R (some (.dat (.int m))) (some (.dat q.d)) (some (.dat (.int a))) (some (.dat (celD (cl X t q.k (p - a) a)))) none) (ev_call (ds := [X.d, tbD t, .str q.k, .int (p - a), .int a]) rfl rfl (Sem.of (S := SStd) (x := (X, t, q.k, p - a, a)) ⟨hX, ht, hq, ha⟩)) rfl
    rw [es]
    cases hc : cl X t q.k (p - a) a with
    | none => exact .inl ⟨rfl, rfl⟩
    | some i => exact .inr ⟨i, rfl, _, _, _, rfl⟩) y.ps as p none none none (fun q hq => (hy.ps q hq).k) h0
  have ez : itG zpD (aCons (eVar 6) (aCons (eVar 4) aNil)) (R (some (.dat (.int p))) none none none none) = some (zpGo (y.ps.map Pt.d) (as.map .int)) := rfl
  rcases lp with ⟨hm, hf⟩ | ⟨m, hm, x1, x2, x3, hf⟩
  · have : mdT X t y p as = none := by
      unfold mdT
      rw [hm]
    rw [this]
    exact ev_seqR (ev_forS ez hf)
  · have em : mdT X t y p as = some (y.k, m - o, o + y.w) := by
      unfold mdT
      rw [hm, ho]
    rw [em]
    refine (ev_seq (ev_forS ez hf)).trans ?_
    have e1 : minTD [.tuple (as.map .int)] = (leastI as).map .int := by
      show ((intsD (as.map PyData.int)).bind leastI).map _ = _
      rw [intsD.map]
      rfl
    have e2 : maxTD [.tuple (as.map .int)] = (mostI as).map .int := by
      show ((intsD (as.map PyData.int)).bind mostI).map _ = _
      rw [intsD.map]
      rfl
    obtain ⟨a1, a2, e3, e4, ek⟩ : ∃ a1 a2, leastI as = some a1 ∧ mostI as = some a2 ∧ ((y.kp = Str.ofString "oldest" ∧ o = a2) ∨ (y.kp = Str.ofString "youngest" ∧ o = a1)) := by
      unfold ownO at ho
      cases as with
      | nil => split at ho <;> cases ho
      | cons a as =>
        refine ⟨_, _, rfl, rfl, ?_⟩
        rcases hy.kp with hk | hk
        · rw [if_pos hk] at ho
          exact .inl ⟨hk, (Option.some.inj ho).symm⟩
        · rw [hk, if_neg (by decide +kernel)] at ho
          exact .inr ⟨hk, (Option.some.inj ho).symm⟩
    rw [e3] at e1
    rw [e4] at e2
    refine (ev_asg (d := .int o) (ρ' := R (some (.dat (.int m))) x1 x2 x3 (some (.dat (.int o)))) ?_ rfl).trans rfl
    rcases ek with ⟨hk, rfl⟩ | ⟨hk, rfl⟩
    · refine ev_e2 (a := .list [.int a1, .int o]) (b := .int 1) (ev_lstX (ev_cons e1 (ev_cons e2 rfl)) (by simp)) ?_ rfl
      have ek : eqD (.str y.kp) (.str (Str.ofString "oldest")) = some (.bool true) := by
        rw [hk, eq_ok (by decide +kernel) (by decide +kernel), show PyData.eqv (.str (Str.ofString "oldest")) (.str (Str.ofString "oldest")) = true by decide +kernel]
      unfold eCall
      rw [ev_cons (d := .bool true) (ds := []) (ev_e2 (a := .str y.kp) (b := .str (Str.ofString "oldest")) rfl rfl ek) rfl]
      rfl
    · refine ev_e2 (a := .list [.int o, .int a2]) (b := .int 0) (ev_lstX (ev_cons e1 (ev_cons e2 rfl)) (by simp)) ?_ rfl
      have ek : eqD (.str y.kp) (.str (Str.ofString "oldest")) = some (.bool false) := by
        rw [hk, eq_ok (by decide +kernel) (by decide +kernel), show PyData.eqv (.str (Str.ofString "youngest")) (.str (Str.ofString "oldest")) = false by decide +kernel]
      unfold eCall
      rw [ev_cons (d := .bool false) (ds := []) (ev_e2 (a := .str y.kp) (b := .str (Str.ofString "oldest")) rfl rfl ek) rfl]
      rfl
end
end Dl
namespace Dl
open PySem PySem.Spec PyProof.Rows L2 Rt
/-! ### stairs: cells of a place, never rising -/
def lowC (c : Option Int) (x : Int) : Option Int := match c with
  | none => some x
  | some i => some (if i > x then x else i)
def lowR (s : List (Option Int)) (lo hi : Nat) (x : Int) : List (Option Int) := s.mapIdx fun a c => if lo ≤ a ∧ a < hi then lowC c x else c
theorem lowR_len (s : List (Option Int)) (lo hi : Nat) (x : Int) : (lowR s lo hi x).length = s.length := List.length_mapIdx
theorem lowR_get {s : List (Option Int)} {lo hi : Nat} {x : Int} {a : Nat} : (lowR s lo hi x)[a]? = (s[a]?).map fun c => if lo ≤ a ∧ a < hi then lowC c x else c := by
  unfold lowR
  rw [List.getElem?_mapIdx]
theorem lowR_none (s : List (Option Int)) (lo : Nat) (x : Int) : lowR s lo lo x = s := by
  apply List.ext_getElem?
  intro a
  rw [lowR_get]
  cases s[a]? with
  | none => rfl
  | some c => exact congrArg some (if_neg (by omega))
theorem lowR_step {s : List (Option Int)} {lo hi : Nat} {x : Int} {c : Option Int} (h : s[hi]? = some c) (hl : lo ≤ hi) : lowR s lo (hi + 1) x = (lowR s lo hi x).set hi (lowC c x) ∧ (lowR s lo hi x)[hi]? = some c := by
  have hlen := (List.getElem?_eq_some_iff.mp h).1
  refine ⟨?_, ?_⟩
  · apply List.ext_getElem?
    intro a
    rw [List.getElem?_set, lowR_get, lowR_get, lowR_len]
    by_cases e : hi = a
    · subst e
      rw [if_pos rfl, if_pos hlen, h]
      exact congrArg some (if_pos ⟨hl, by omega⟩)
    · rw [if_neg e]
      cases s[a]? with
      | none => rfl
      | some c =>
        show some (if lo ≤ a ∧ a < hi + 1 then lowC c x else c) = some (if lo ≤ a ∧ a < hi then lowC c x else c)
        by_cases h2 : lo ≤ a ∧ a < hi
        · rw [if_pos h2, if_pos ⟨h2.1, by omega⟩]
        · rw [if_neg h2, if_neg (by omega)]
  · rw [lowR_get, h]
    exact congrArg some (if_neg (by omega))
theorem lowC_keep {c : Option Int} {x : Int} (h : ∃ i, c = some i ∧ i ≤ x) : lowC c x = c := by
  obtain ⟨i, rfl, hi⟩ := h
  show some (if i > x then x else i) = _
  rw [if_neg (by omega)]
structure StG (B n pl : Int) (s : List (Option Int)) : Prop where
  l : s.length = 27
  res : ∀ i, some i ∈ s → i % n = pl
  lo : ∀ i, some i ∈ s → -20 ≤ i
  hi : ∀ i, some i ∈ s → i ≤ B
  mon : ∀ (a b : Nat) (i : Int), s[a]? = some (some i) → a ≤ b → b < 27 → ∃ i', s[b]? = some (some i') ∧ i' ≤ i
theorem StG.up {B B' n pl : Int} {s : List (Option Int)} (h : StG B n pl s) (hB : B ≤ B') : StG B' n pl s := ⟨h.l, h.res, h.lo, fun i hi => by have := h.hi i hi; omega, h.mon⟩
theorem lowR_mem {s : List (Option Int)} {lo hi : Nat} {x i : Int} (h : some i ∈ lowR s lo hi x) : some i ∈ s ∨ i = x := by
  obtain ⟨a, ha⟩ := List.getElem?_of_mem h
  rw [lowR_get] at ha
  cases hs : s[a]? with
  | none => rw [hs] at ha; cases ha
  | some c =>
    rw [hs] at ha
    have ha : some (if lo ≤ a ∧ a < hi then lowC c x else c) = some (some i) := ha
    injection ha with ha
    split at ha
    · cases c with
      | none => injection ha with ha; exact .inr ha.symm
      | some j =>
        have ha : some (if j > x then x else j) = some i := ha
        injection ha with ha
        split at ha
        · exact .inr ha.symm
        · rw [← ha]; exact .inl (List.mem_of_getElem? hs)
    · rw [← ha]; exact .inl (List.mem_of_getElem? hs)
theorem StG.low {B n pl : Int} {s : List (Option Int)} (h : StG B n pl s) {a : Nat} {x : Int} (hr : x % n = pl) (h0 : -20 ≤ x) (h1 : x ≤ B) : StG B n pl (lowR s a 27 x) := by
  refine ⟨by rw [lowR_len]; exact h.l, fun i hi => ?_, fun i hi => ?_, fun i hi => ?_, fun c b i ec hcb hb => ?_⟩
  · rcases lowR_mem hi with z | rfl
    · exact h.res i z
    · exact hr
  · rcases lowR_mem hi with z | rfl
    · exact h.lo i z
    · exact h0
  · rcases lowR_mem hi with z | rfl
    · exact h.hi i z
    · exact h1
  · have sl := h.l
    rw [lowR_get] at ec ⊢
    obtain ⟨y, hy⟩ : ∃ y, s[c]? = some y := ⟨_, List.getElem?_eq_getElem (by omega)⟩
    obtain ⟨z, hz⟩ : ∃ z, s[b]? = some z := ⟨_, List.getElem?_eq_getElem (by omega)⟩
    rw [hy] at ec
    rw [hz]
    have ec : some (if a ≤ c ∧ c < 27 then lowC y x else y) = some (some i) := ec
    injection ec with ec
    show ∃ i', some (if a ≤ b ∧ b < 27 then lowC z x else z) = some (some i') ∧ i' ≤ i
    by_cases hac : a ≤ c
    · rw [if_pos ⟨hac, by omega⟩] at ec
      rw [if_pos ⟨by omega, hb⟩]
      cases y with
      | none =>
        injection ec with ec
        subst ec
        cases z with
        | none => exact ⟨_, rfl, Int.le_refl _⟩
        | some j => exact ⟨_, rfl, by split <;> omega⟩
      | some k =>
        obtain ⟨k', hk', lk⟩ := h.mon c b k hy hcb hb
        rw [hz] at hk'
        cases hk'
        have ec : some (if k > x then x else k) = some i := ec
        injection ec with ec
        refine ⟨_, rfl, ?_⟩
        rw [← ec]
        split <;> split <;> omega
    · rw [if_neg (by omega)] at ec
      subst ec
      obtain ⟨k', hk', lk⟩ := h.mon c b i hy hcb hb
      rw [hz] at hk'
      cases hk'
      by_cases hab : a ≤ b
      · rw [if_pos ⟨hab, hb⟩]
        exact ⟨_, rfl, by split <;> omega⟩
      · rw [if_neg (by omega)]
        exact ⟨_, rfl, lk⟩
theorem nones_g {B n pl : Int} : StG B n pl (List.replicate 27 none) := by
  refine ⟨List.length_replicate, fun i hi => ?_, fun i hi => ?_, fun i hi => ?_, fun a b i e => ?_⟩
  · exact nomatch (List.mem_replicate.mp hi).2
  · exact nomatch (List.mem_replicate.mp hi).2
  · exact nomatch (List.mem_replicate.mp hi).2
  · rw [List.getElem?_replicate] at e
    split at e <;> cases e
theorem cel_low (c : Option Int) (x : Int) : celD (lowC c x) = match c with | none => .int x | some i => .int (if i > x then x else i) := by cases c <;> rfl
/-! loops over a row of numbers -/
theorem rgD_succ (lo : Int) (n : Nat) : rgD lo (n + 1) = .int lo :: rgD (lo + 1) n := by
  unfold rgD
  rw [List.range_succ_eq_map, List.map_cons, List.map_map]
  congr 1
  · simp
  · refine List.map_congr_left fun i _ => ?_
    show PyData.int (lo + ((i + 1 : Nat) : Int)) = PyData.int (lo + 1 + (i : Int))
    congr 1
    omega
theorem forN_rg {p : Pat} {body : WP Out} {Q : Out → Nat → Prop} (lo : Int) (c : Nat) (I : Nat → Rho → Prop) : ∀ (m j : Nat) (ρ : Rho) (b : Nat), I j ρ → m * c ≤ b → (∀ (j' : Nat) ρ b, j ≤ j' → j' < j + m → I j' ρ → c ≤ b → ∃ ρ1, bindP p (.int (lo + (j' : Int))) ρ = some ρ1 ∧ ∀ Q' : Out → Nat → Prop, (∀ ρ2 b2, I (j' + 1) ρ2 → b ≤ b2 + c → Q' (.nx ρ2) b2) → body.w ρ1 b Q') → (∀ ρ' b', I (j + m) ρ' → b ≤ b' + m * c → Q (.nx ρ') b') → forN p body (rgD (lo + (j : Int)) m) ρ b Q
  | 0, j, ρ, b, i, _, _, q => q ρ b i (by omega)
  | m + 1, j, ρ, b, i, hb, hs, q => by
    rw [rgD_succ]
    have e : (m + 1) * c = m * c + c := by rw [Nat.add_mul, Nat.one_mul]
    rw [e] at hb q
    obtain ⟨ρ1, e1, hw⟩ := hs j ρ b (Nat.le_refl _) (by omega) i (by omega)
    refine ⟨ρ1, e1, hw _ fun ρ2 b2 i2 h2 => ?_⟩
    have := forN_rg (Q := Q) lo c I m (j + 1) ρ2 b2 i2 (by omega) (fun j' ρ b h1 h2 => hs j' ρ b (by omega) (by omega)) fun ρ' b' i' h' => q ρ' b' (by rw [show j + (m + 1) = j + 1 + m by omega]; exact i') (by omega)
    rw [show lo + ((j + 1 : Nat) : Int) = lo + (j : Int) + 1 by omega] at this
    exact this
theorem forG_rg {p : Pat} {body : Rho → Option Out} (lo : Int) (S : Nat → Rho) : ∀ (m j : Nat), (∀ j' : Nat, j ≤ j' → j' < j + m → ∃ ρ1, bindP p (.int (lo + (j' : Int))) (S j') = some ρ1 ∧ body ρ1 = some (.nx (S (j' + 1)))) → forGo p body (rgD (lo + (j : Int)) m) (S j) = some (.nx (S (j + m)))
  | 0, j, _ => rfl
  | m + 1, j, h => by
    rw [rgD_succ]
    obtain ⟨ρ1, e1, e2⟩ := h j (Nat.le_refl _) (by omega)
    refine (ev_forC e1 e2).trans ?_
    have := forG_rg (p := p) (body := body) lo S m (j + 1) fun j' h1 h2 => h j' (by omega) (by omega)
    rw [show lo + ((j + 1 : Nat) : Int) = lo + (j : Int) + 1 by omega, show j + 1 + m = j + (m + 1) by omega] at this
    exact this
inductive Al2 (P : D → D → Prop) : List D → List D → Prop
  | nil : Al2 P [] []
  | cons {x y : D} {xs ys : List D} : P x y → Al2 P xs ys → Al2 P (x :: xs) (y :: ys)
theorem Al2.len {P : D → D → Prop} : ∀ {xs ys : List D}, Al2 P xs ys → ys.length = xs.length
  | _, _, .nil => rfl
  | _, _, .cons _ t => congrArg (· + 1) t.len
theorem Al2.get {P : D → D → Prop} : ∀ {xs ys : List D} {i : Nat} {x : D}, Al2 P xs ys → xs[i]? = some x → ∃ y, ys[i]? = some y ∧ P x y
  | _, _, _, _, .nil, e => nomatch e
  | _, _, 0, _, .cons h t, e => by cases e; exact ⟨_, rfl, h⟩
  | _, _, i + 1, _, .cons h t, e => t.get (i := i) e
theorem lcN_rel {p : Pat} {f : WP D} {ρ : Rho} (c : Nat) (Pt : D → D → Prop) : ∀ (items : List D) (b : Nat) (Q : List D → Nat → Prop), items.length * c ≤ b →
    (∀ x ∈ items, ∀ (b : Nat) (Q : D → Nat → Prop), c ≤ b → (∀ d n', Pt x d → b ≤ n' + c → Q d n') → ∃ ρ1, bindP p x ρ = some ρ1 ∧ f.w ρ1 b Q) → (∀ r b', Al2 Pt items r → b ≤ b' + items.length * c → Q r b') → lcN p wYes f ρ items b Q
  | [], b, Q, _, _, q => q [] b .nil (by simp)
  | x :: xs, b, Q, hb, h, q => by
    have e : (x :: xs).length * c = xs.length * c + c := by rw [List.length_cons, Nat.add_mul, Nat.one_mul]
    rw [e] at hb q
    obtain ⟨ρ1, e1, hw⟩ := h x (by simp) b (fun d n' => lcN p wYes f ρ xs n' fun r b' => Q (d :: r) b') (by omega) fun d n' pd hn => lcN_rel c Pt xs n' _ (by omega) (fun y hy => h y (by simp [hy])) fun r b' hr hb' => q (d :: r) b' (.cons pd hr) (by omega)
    exact ⟨ρ1, e1, hw⟩
end Dl
namespace Dl
open PySem PySem.Spec PyProof.Rows L2 Rt
/-- names as they are drawn -/
structure NmS (ks : List Str) : Prop where
  k1 : 1 ≤ ks.length
  k4 : ks.length ≤ 4
  ks : ∀ z ∈ ks, PyData.strOk z = true ∧ z.length ≤ 20
theorem nlAll_of : ∀ {ds : List D}, (∀ d ∈ ds, nl d = true) → nlAll ds = true
  | [], _ => rfl
  | d :: ds, h => Bool.and_eq_true_iff.mpr ⟨h d (by simp), nlAll_of fun x hx => h x (by simp [hx])⟩
theorem wIfSet {c : WP Bool} {f r : WP Out} {ρ : Rho} {b : Nat} {Q : Out → Nat → Prop} (T : Rho → Nat → Prop) (hr : ∀ ρ' b', T ρ' b' → r.w ρ' b' Q) (hc : c.w ρ b fun k b1 => if k = true then f.w ρ b1 fun o b2 => ∃ ρ', o = .nx ρ' ∧ T ρ' b2 else T ρ b1) : (swSeq (swIf c f swNil) r).w ρ b Q := by
  refine c.m (fun k b1 z => ?_) hc
  cases k with
  | true =>
    refine f.m (fun o b2 ⟨ρ', e, t⟩ => ?_) z
    subst e
    exact hr ρ' b2 t
  | false => exact hr ρ b1 z
def gWay : GF := gAny 60 (fun ds => ∃ n ks, ds = [.int n, .list (ks.map .str), .bool false] ∧ NmS ks ∧ 1 ≤ n ∧ n ≤ 6) (fun ds d => ∃ n ks y, ds = [.int n, .list (ks.map .str), .bool false] ∧ d = Wy.d y ∧ y.ok n ks)
def gWorld : GF := gAny 700 (fun ds => ds = [.bool false]) (fun _ d => ∃ X : Wd, d = X.d ∧ X.ok ∧ X.ks.Nodup)
theorem mem_str {ks : List Str} {d : D} (h : d ∈ ks.map PyData.str) : ∃ z, d = .str z ∧ z ∈ ks := by
  obtain ⟨z, hz, rfl⟩ := List.mem_map.mp h
  exact ⟨z, rfl, hz⟩
section
variable {P : Program} {w : World} {K : PySem.W.Frag} {mg : Str → Option Value} {base : Heap}
theorem ok_way {f : Addr} {fd : FuncData} (F : Fun K "_law_way" "_law_way" s_law_way f fd) (m_range : mg "range" = none) (m_tuple : mg "tuple" = none) (m_int : mg "int" = none) (m_min : mg "min" = none) (C__law_draw : Cl P w K mg base 1 "_law_draw" ["_law_pool_here", "_law_many"] (spN 1 gNext)) (C__law_any : Cl P w K mg base 2 "_law_any" ["_law_pool_here", "_law_some"] (spN 1 gOne)) : FnOk P w K mg base CX0 3 f fd ["_law_pool_here", "_law_size", "_law_names", "_law_wide"] (spN 3 gWay) := by
  refine okFnN F sc_law_way rfl fun cdv A outer s H E hr => ⟨_, (nSs_cons (nS_own (ps_set (i := 4) sc_law_way.nd rfl (.inl rfl) (nN_lst nA_nil)))
  (nSs_cons (nS_asg (K := K) (p := .nm 5) (ps_set (i := 5) sc_law_way.nd rfl (.inl rfl) (nE_op o_add (nE_pure (dE_c (μ := true) pe_int)) (nE_draw C__law_draw (hr.mono (by omega)) (by rfl) (pv 0) (nA_cons (nE_pure (dE_c (μ := true) pe_int)) nA_nil)))))
  (nSs_cons (nS_for (K := K) (p := (.nm 6)) (ps_for PassesOwn.never rfl (nI_pure (dI_ran1 (by rfl) m_range (dA_cons (dE_var (μ := true) (pv 5)) (dA_nil (μ := true))))) (pg_name (i := 6) sc_law_way.nd rfl (.inl rfl))
    (nSs_cons (nS_asg (K := K) (p := .nm 7) (ps_set (i := 7) sc_law_way.nd rfl (.inl rfl) (nE_draw C__law_any (hr.mono (by omega)) (by rfl) (pv 0) (nA_cons (nE_lst (nA_cons (nE_pure (dE_c (μ := true) pe_int)) (nA_cons (nE_pure (dE_c (μ := true) pe_int)) (nA_cons (nE_pure (dE_c (μ := true) pe_int)) (nA_cons (nE_draw C__law_draw (hr.mono (by omega)) (by rfl) (pv 0) (nA_cons (nE_pure (dE_c (μ := true) pe_int)) nA_nil)) (nA_cons (nE_ix (nE_lst (nA_cons (nE_pure (dE_c (μ := true) pe_int)) (nA_cons (nE_draw C__law_draw (hr.mono (by omega)) (by rfl) (pv 0) (nA_cons (nE_pure (dE_c (μ := true) pe_int)) nA_nil)) nA_nil))) (nE_pure (dE_callTy c_int (by rfl) m_int (by decide +kernel) (dA_cons (dE_var (μ := true) (pv 3)) (dA_nil (μ := true)))))) nA_nil)))))) nA_nil))))
  (nSs_cons (nS_asg (K := K) (p := .nm 8) (ps_set (i := 8) sc_law_way.nd rfl (.inl rfl) (nE_draw C__law_any (hr.mono (by omega)) (by rfl) (pv 0) (nA_cons (nE_pure (dE_lst (dA_cons (dE_c (μ := true) pe_int) (dA_cons (dE_c (μ := true) pe_int) (dA_cons (dE_c (μ := true) pe_int) (dA_cons (dE_ix (dE_lst (dA_cons (dE_c (μ := true) pe_int) (dA_cons (dE_c (μ := true) pe_int) (dA_nil (μ := true))))) (dE_callTy c_int (by rfl) m_int (by decide +kernel) (dA_cons (dE_var (μ := true) (pv 3)) (dA_nil (μ := true))))) (dA_nil (μ := true)))))))) nA_nil))))
  (nSs_cons (nS_if (nT_pure (PW.pt (dW_and (dT_cmp (o_eq hr.units) (dE_var (μ := true) (pv 5)) (dE_c (μ := true) pe_int) (nomark _)) (dW_and1 (dT_not (dT_truth (dE_var (μ := true) (pv 3))))))))
    (nSs_one (nS_asg (K := K) (p := .nm 8) (ps_set (i := 8) sc_law_way.nd rfl (.inl rfl) (nE_pure (dE_op o_mod (dE_var (μ := true) (pv 8)) (dE_c (μ := true) pe_int))))))
    nSs_nil)
  (nSs_one (nS_app (K := K) (ps_expr (pe_bm PySem.F.plainAttrs_list PySem.F.slot_list_append PySem.F.type_list_append mt_append (pv 4) (nA_cons (nE_tup (nA_cons (nE_draw C__law_any (hr.mono (by omega)) (by rfl) (pv 0) (nA_cons (nE_pure (dE_var (μ := true) (pv 2))) nA_nil)) (nA_cons (nE_pure (dE_var (μ := true) (pv 7))) (nA_cons (nE_pure (dE_callB (c_min2 rfl) (by rfl) m_min (by decide +kernel) (dA_cons (dE_c (μ := true) pe_int) (dA_cons (dE_op o_add (dE_var (μ := true) (pv 7)) (dE_var (μ := true) (pv 8))) (dA_nil (μ := true)))))) nA_nil)))) nA_nil))))))))))
  (nSs_cons (nS_asg (K := K) (p := .nm 9) (ps_set (i := 9) sc_law_way.nd rfl (.inl rfl) (nE_callTy c_tuple (by rfl) m_tuple (by decide +kernel) (nA_cons (nE_lc (K := K) (p := (.nm 11)) (pe_lc (own := [("_law_place", 11)]) (g := gP K (.nm 11)) rfl sc_law_way.nd (nI_pure (dI_ran1 (by rfl) m_range (dA_cons (dE_var (μ := true) (pv 1)) (dA_nil (μ := true))))) (blkOk_by (own := [("_law_place", 11)]) (N := ["_law_pool_here", "_law_size", "_law_names", "_law_wide", "_law_parts", "_law_many", "_law_turn", "_law_least", "_law_more", "_law_hours", "_law_keeps", "_law_place"]) (sc := defScope s_law_way) (by decide +kernel)) (fun _ _ _ _ _ => (pg_name (i := 11) sc_law_way.nd rfl (.inl rfl))) (fun _ _ _ _ _ => (pts_one (nT_cmp o_gt (nE_draw C__law_draw (hr.mono (by omega)) (by rfl) (pv 0) (nA_cons (nE_pure (dE_c (μ := true) pe_int)) nA_nil)) (nE_pure (dE_c (μ := true) pe_int)) (nomark _)))) (fun _ _ _ _ _ => (nE_pure (dE_var (μ := true) (pv 11)))))) nA_nil))))
  (nSs_cons (nS_asg (K := K) (p := .nm 10) (ps_set (i := 10) sc_law_way.nd rfl (.inl rfl) (nE_draw C__law_any (hr.mono (by omega)) (by rfl) (pv 0) (nA_cons (nE_pure (dE_lst (dA_cons (dE_c (μ := true) pe_str) (dA_cons (dE_c (μ := true) pe_str) (dA_nil (μ := true)))))) nA_nil))))
  (nSs_one (nS_ret (ps_ret (nE_tup (nA_cons (nE_draw C__law_any (hr.mono (by omega)) (by rfl) (pv 0) (nA_cons (nE_pure (dE_var (μ := true) (pv 2))) nA_nil)) (nA_cons (nE_loose (dE_callTy c_tuple (by rfl) m_tuple (by decide +kernel) (dA_cons (dE_var (μ := true) (pv 4)) (dA_nil (μ := true))))) (nA_cons (nE_pure (dE_var (μ := true) (pv 10))) (nA_cons (nE_pure (dE_var (μ := true) (pv 9))) (nA_cons (nE_op o_add (nE_pure (dE_c (μ := true) pe_int)) (nE_draw C__law_draw (hr.mono (by omega)) (by rfl) (pv 0) (nA_cons (nE_pure (dE_c (μ := true) pe_int)) nA_nil))) nA_nil)))))))))))))), fun ds b Q l h => ?_⟩
  obtain ⟨⟨n, zs, rfl, hk, n1, n6⟩, hb, q⟩ := h
  have hk1 := hk.k1
  have hk2 := hk.k4
  let ks : List D := zs.map .str
  have kl : ks.length = zs.length := List.length_map ..
  let R : List D → Option LV → Option LV → Option LV → Option LV → Option LV → Option LV → Rho := fun L a b c d e f => [some .pool, some (.dat (.int n)), some (.dat (.list ks)), some (.dat (.bool false)), some (.own L), a, b, c, d, e, f, none]
  refine ⟨.list [], rfl, [], rfl, by show 4 < 12; decide, ?_⟩
  refine ⟨.int 1, rfl, wNext (m := 3) rfl rfl (by decide) (by decide) (by omega) fun v1 b1 v10 v11 h1 => ⟨_, rfl, R [] (some (.dat (.int (1 + v1)))) none none none none none, rfl, ?_⟩⟩
  refine ⟨rgD 0 (1 + v1).toNat, ev_itG (ds := [.int (1 + v1)]) rfl (ran1_ok (by omega) (by omega)), forN_cost 3 5 (fun k ρ => ∃ (L : List Pt) (x y z : Option LV), ρ = R (L.map Pt.d) (some (.dat (.int (1 + v1)))) x y z none none ∧ L.length = k ∧ ∀ d ∈ L, d.ok zs) (rgD 0 (1 + v1).toNat) 0 _ b1 (by rw [rgD_len]; omega) ⟨[], _, _, _, rfl, rfl, fun d hd => nomatch hd⟩ (by rw [rgD_len]; omega) (fun x hx k ρ b k3 i hb => ?_) (fun ρ b2 i h2 => ?_)⟩
  · obtain ⟨L, y1, y2, y3, rfl, ll, hL⟩ := i
    obtain ⟨t, ht, rfl⟩ := List.mem_map.mp hx
    refine ⟨R (L.map Pt.d) (some (.dat (.int (1 + v1)))) (some (.dat (.int (0 + t)))) y2 y3 none none, rfl, fun Q' q' => ?_⟩
    -- least
    refine ⟨rfl, .int 0, rfl, .int 0, rfl, .int 1, rfl, wNext (m := 5) rfl rfl (by decide) (by decide) (by omega) fun v2 c2 v20 v21 g2 => ⟨.int 3, rfl, wNext (m := 21) rfl rfl (by decide) (by decide) (by omega) fun v3 c3 v30 v31 g3 => ⟨_, rfl, _, rfl, _, rfl, _, rfl, .int 3, rfl, _, rfl, _, rfl, _, rfl, _, rfl, _, rfl, .list [.int 0, .int 0, .int 1, .int v2, .int 3], rfl, _, rfl, rfl, ?_⟩⟩⟩
    refine oneL (by simp) (by simp) (by omega) fun le c4 lm g4 => ?_
    obtain ⟨lo, rfl, l0, l1⟩ : ∃ lo : Int, le = .int lo ∧ 0 ≤ lo ∧ lo ≤ 20 := by
      simp only [List.mem_cons, List.not_mem_nil, or_false] at lm
      rcases lm with rfl | rfl | rfl | rfl | rfl <;> exact ⟨_, rfl, by omega, by omega⟩
    refine ⟨R (L.map Pt.d) (some (.dat (.int (1 + v1)))) (some (.dat (.int (0 + t)))) (some (.dat (.int lo))) y3 none none, rfl, ?_⟩
    -- more
    refine wOne (items := [.int 0, .int 1, .int 2, .int 3]) rfl rfl rfl (by decide) (by decide) (by omega) fun mo c5 mm g5 => ?_
    obtain ⟨mr, rfl, m0, m1⟩ : ∃ mr : Int, mo = .int mr ∧ 0 ≤ mr ∧ mr ≤ 20 := by
      simp only [List.mem_cons, List.not_mem_nil, or_false] at mm
      rcases mm with rfl | rfl | rfl | rfl <;> exact ⟨_, rfl, by decide, by decide⟩
    refine ⟨R (L.map Pt.d) (some (.dat (.int (1 + v1)))) (some (.dat (.int (0 + t)))) (some (.dat (.int lo))) (some (.dat (.int mr))) none none, rfl, ?_⟩
    refine wIfSet (fun ρ' b' => b' = c5 ∧ ∃ mr' : Int, 0 ≤ mr' ∧ mr' ≤ 20 ∧ ρ' = R (L.map Pt.d) (some (.dat (.int (1 + v1)))) (some (.dat (.int (0 + t)))) (some (.dat (.int lo))) (some (.dat (.int mr'))) none none) (fun ρ' b' hT => ?_) ?_
    rotate_left
    · refine ⟨((1 + v1 : Int) == 3), (ev_oAnd (b := ((1 + v1 : Int) == 3)) rfl).trans (by cases ((1 + v1 : Int) == 3) <;> rfl), ?_⟩
      cases ((1 + v1 : Int) == 3) with
      | true => exact ⟨.int (mr % 2), rfl, R (L.map Pt.d) (some (.dat (.int (1 + v1)))) (some (.dat (.int (0 + t)))) (some (.dat (.int lo))) (some (.dat (.int (mr % 2)))) none none, rfl, _, rfl, rfl, mr % 2, by omega, by omega, rfl⟩
      | false => exact ⟨rfl, mr, m0, m1, rfl⟩
    obtain ⟨rfl, mr, m0, m1, rfl⟩ := hT
    -- a part more
    refine ⟨L.map Pt.d, rfl, wOne (items := ks) rfl rfl rfl (by omega) (by omega) (by omega) fun kd c6 km g6 => ?_⟩
    obtain ⟨z, rfl, zm⟩ := mem_str km
    let q0 : Pt := ⟨z, lo, if lo + mr < 20 then lo + mr else 20⟩
    refine ⟨.int lo, rfl, _, rfl, _, rfl, _, rfl, _, rfl, q0.d, rfl, _, rfl, _, rfl, Nat.lt_of_lt_of_le (show (L.map Pt.d).length < 100 by rw [List.length_map]; omega) (by decide), q' _ c6 ⟨L ++ [q0], some (.dat (.int (0 + t))), some (.dat (.int lo)), some (.dat (.int mr)), ?_, by rw [List.length_append, ll]; rfl, fun d hd => ?_⟩ (by omega)⟩
    · rw [List.map_append]
      rfl
    · rcases List.mem_append.mp hd with hd | hd
      · exact hL d hd
      · rw [List.mem_singleton.mp hd]
        exact ⟨zm, l0, by show lo ≤ (if lo + mr < 20 then lo + mr else 20); split <;> omega, by show (if lo + mr < 20 then lo + mr else 20) ≤ 20; split <;> omega⟩
  · obtain ⟨L, y1, y2, y3, rfl, ll, hL⟩ := i
    rw [rgD_len] at ll h2
    have lL : L.length ≤ 3 := by omega
    refine ⟨rgD 0 n.toNat, ev_itG (ds := [.int n]) rfl (ran1_ok (by omega) (by omega)), ?_⟩
    have ln : (rgD 0 n.toNat).length = n.toNat := rgD_len _ _
    refine lcN_some (by show 11 < 12; decide) 1 (rgD 0 n.toNat) b2 _ (by rw [ln]; omega) (fun x hx b Q hb q => ?_) (fun r b3 hs h3 => ?_) (fun x => rfl)
    · exact wNext (m := 3) rfl rfl (by decide) (by decide) hb fun v n' v0 v1 hn => ⟨.int 0, rfl, _, rfl, _, rfl, q _ n' hn⟩
    rw [ln] at h3
    obtain ⟨is, his, rfl⟩ := List.sublist_map_iff.mp (show r.Sublist ((List.range n.toNat).map fun i => PyData.int (0 + (i : Nat))) from hs)
    have il : is.length ≤ 6 := by
      have := his.length_le
      rw [List.length_range] at this
      omega
    let hs' : List Int := is.map fun i => 0 + (i : Nat)
    have eh : is.map (fun i => PyData.int (0 + (i : Nat))) = hs'.map .int := by
      show _ = (is.map _).map _
      rw [List.map_map]
      rfl
    rw [eh]
    refine ⟨_, rfl, .tuple (hs'.map .int), rfl, R (L.map Pt.d) (some (.dat (.int (1 + v1)))) y1 y2 y3 (some (.dat (.tuple (hs'.map .int)))) none, rfl, ?_⟩
    refine wOne (items := [S "oldest", S "youngest"]) rfl rfl rfl (by decide) (by decide) (by omega) fun kp b4 km4 h4 => ?_
    obtain ⟨kz, rfl, hkz⟩ : ∃ kz, kp = .str kz ∧ (kz = Str.ofString "oldest" ∨ kz = Str.ofString "youngest") := by
      simp only [List.mem_cons, List.not_mem_nil, or_false] at km4
      rcases km4 with rfl | rfl
      · exact ⟨_, rfl, .inl rfl⟩
      · exact ⟨_, rfl, .inr rfl⟩
    refine ⟨R (L.map Pt.d) (some (.dat (.int (1 + v1)))) y1 y2 y3 (some (.dat (.tuple (hs'.map .int)))) (some (.dat (.str kz))), rfl, ?_⟩
    have nlL : nl (.tuple (L.map Pt.d)) = true := nlAll_of fun d hd => by
      obtain ⟨q, _, rfl⟩ := List.mem_map.mp hd
      rfl
    refine wOne (items := ks) rfl rfl rfl (by omega) (by omega) (by omega) fun kd b5 km h5 => ?_
    obtain ⟨z, rfl, zm⟩ := mem_str km
    refine ⟨.tuple (L.map Pt.d), rfl, nlL, .str kz, rfl, .tuple (hs'.map .int), rfl, .int 1, rfl, wNext (m := 6) rfl rfl (by decide) (by decide) (by omega) fun v6 b6 v60 v61 h6 => ⟨_, rfl, _, rfl, _, rfl, _, rfl, _, rfl, _, rfl, _, rfl, ?_⟩⟩
    refine q _ b6 ⟨n, zs, ⟨z, L, kz, hs', 1 + v6⟩, rfl, rfl, zm, hL, by show 1 ≤ L.length; omega, lL, hkz, fun h hh => ?_, by show (is.map _).length ≤ 6; rw [List.length_map]; exact il, by show 1 ≤ 1 + v6; omega, by show 1 + v6 ≤ 6; omega⟩ (by omega)
    obtain ⟨i, hi, rfl⟩ := List.mem_map.mp (show h ∈ is.map _ from hh)
    have := List.mem_range.mp (his.subset hi)
    exact ⟨by omega, by omega⟩
theorem nms_mem {x : D} (h : x ∈ [PyData.list [S "a"], .list [S "a", S "b"], .list [S "iron", S "x", S "y"], .list [S "a", S "aa", S "b", S "zzzzzzzz"]]) : ∃ ks : List Str, x = .list (ks.map .str) ∧ NmS ks ∧ ks.Nodup := by
  simp only [List.mem_cons, List.not_mem_nil, or_false] at h
  rcases h with rfl | rfl | rfl | rfl
  · exact ⟨["a"].map Str.ofString, rfl, ⟨by decide, by decide, by decide +kernel⟩, by decide +kernel⟩
  · exact ⟨["a", "b"].map Str.ofString, rfl, ⟨by decide, by decide, by decide +kernel⟩, by decide +kernel⟩
  · exact ⟨["iron", "x", "y"].map Str.ofString, rfl, ⟨by decide, by decide, by decide +kernel⟩, by decide +kernel⟩
  · exact ⟨["a", "aa", "b", "zzzzzzzz"].map Str.ofString, rfl, ⟨by decide, by decide, by decide +kernel⟩, by decide +kernel⟩
theorem ok_world {f : Addr} {fd : FuncData} (F : Fun K "_law_world" "_law_world" s_law_world f fd) (m_range : mg "range" = none) (m_tuple : mg "tuple" = none) (m_int : mg "int" = none) (C__law_draw : Cl P w K mg base 1 "_law_draw" ["_law_pool_here", "_law_many"] (spN 1 gNext)) (C__law_any : Cl P w K mg base 2 "_law_any" ["_law_pool_here", "_law_some"] (spN 1 gOne)) (C__law_way : Cl P w K mg base 3 "_law_way" ["_law_pool_here", "_law_size", "_law_names", "_law_wide"] (spN 3 gWay)) : FnOk P w K mg base CX0 4 f fd ["_law_pool_here", "_law_wide"] (spN 1 gWorld) := by
  refine okFnN F sc_law_world rfl fun cdv A outer s H E hr => ⟨_, (nSs_cons (nS_asg (K := K) (p := .nm 2) (ps_set (i := 2) sc_law_world.nd rfl (.inr rfl) (nE_op o_add (nE_pure (dE_c (μ := true) pe_int)) (nE_draw C__law_draw (hr.mono (by omega)) (by rfl) (pv 0) (nA_cons (nE_pure (dE_ix (dE_lst (dA_cons (dE_c (μ := true) pe_int) (dA_cons (dE_c (μ := true) pe_int) (dA_nil (μ := true))))) (dE_callTy c_int (by rfl) m_int (by decide +kernel) (dA_cons (dE_var (μ := true) (pv 1)) (dA_nil (μ := true)))))) nA_nil)))))
  (nSs_cons (nS_asg (K := K) (p := .nm 3) (ps_set (i := 3) sc_law_world.nd rfl (.inr rfl) (nE_draw C__law_any (hr.mono (by omega)) (by rfl) (pv 0) (nA_cons (nE_pure (dE_lst (dA_cons (dE_lst (dA_cons (dE_c (μ := true) pe_str) (dA_nil (μ := true)))) (dA_cons (dE_lst (dA_cons (dE_c (μ := true) pe_str) (dA_cons (dE_c (μ := true) pe_str) (dA_nil (μ := true))))) (dA_cons (dE_lst (dA_cons (dE_c (μ := true) pe_str) (dA_cons (dE_c (μ := true) pe_str) (dA_cons (dE_c (μ := true) pe_str) (dA_nil (μ := true)))))) (dA_cons (dE_lst (dA_cons (dE_c (μ := true) pe_str) (dA_cons (dE_c (μ := true) pe_str) (dA_cons (dE_c (μ := true) pe_str) (dA_cons (dE_c (μ := true) pe_str) (dA_nil (μ := true))))))) (dA_nil (μ := true)))))))) nA_nil))))
  (nSs_cons (nS_own (ps_set (i := 4) sc_law_world.nd rfl (.inl rfl) (nN_lst nA_nil)))
  (nSs_cons (nS_for (K := K) (p := (.nm 5)) (ps_for PassesOwn.never rfl (nI_ran1 (by rfl) m_range (nA_cons (nE_draw C__law_draw (hr.mono (by omega)) (by rfl) (pv 0) (nA_cons (nE_pure (dE_ix (dE_lst (dA_cons (dE_c (μ := true) pe_int) (dA_cons (dE_c (μ := true) pe_int) (dA_nil (μ := true))))) (dE_callTy c_int (by rfl) m_int (by decide +kernel) (dA_cons (dE_var (μ := true) (pv 1)) (dA_nil (μ := true)))))) nA_nil)) nA_nil)) (pg_name (i := 5) sc_law_world.nd rfl (.inl rfl))
    (nSs_cons (nS_asg (K := K) (p := .nm 6) (ps_set (i := 6) sc_law_world.nd rfl (.inl rfl) (nE_draw C__law_any (hr.mono (by omega)) (by rfl) (pv 0) (nA_cons (nE_lst (nA_cons (nE_pure (dE_c (μ := true) pe_int)) (nA_cons (nE_pure (dE_c (μ := true) pe_int)) (nA_cons (nE_draw C__law_draw (hr.mono (by omega)) (by rfl) (pv 0) (nA_cons (nE_pure (dE_c (μ := true) pe_int)) nA_nil)) (nA_cons (nE_draw C__law_draw (hr.mono (by omega)) (by rfl) (pv 0) (nA_cons (nE_pure (dE_c (μ := true) pe_int)) nA_nil)) (nA_cons (nE_op o_sub (nE_pure (dE_op o_pow (dE_c (μ := true) pe_int) (dE_c (μ := true) pe_int))) (nE_draw C__law_draw (hr.mono (by omega)) (by rfl) (pv 0) (nA_cons (nE_pure (dE_c (μ := true) pe_int)) nA_nil))) nA_nil)))))) nA_nil))))
  (nSs_cons (nS_asg (K := K) (p := .nm 7) (ps_set (i := 7) sc_law_world.nd rfl (.inl rfl) (nE_tup (nA_cons (nE_draw C__law_any (hr.mono (by omega)) (by rfl) (pv 0) (nA_cons (nE_pure (dE_var (μ := true) (pv 3))) nA_nil)) (nA_cons (nE_draw C__law_any (hr.mono (by omega)) (by rfl) (pv 0) (nA_cons (nE_lst (nA_cons (nE_pure (dE_c (μ := true) pe_int)) (nA_cons (nE_pure (dE_c (μ := true) pe_int)) (nA_cons (nE_pure (dE_c (μ := true) pe_int)) (nA_cons (nE_draw C__law_draw (hr.mono (by omega)) (by rfl) (pv 0) (nA_cons (nE_pure (dE_c (μ := true) pe_int)) nA_nil)) (nA_cons (nE_pure (dE_c (μ := true) pe_int)) nA_nil)))))) nA_nil)) (nA_cons (nE_draw C__law_draw (hr.mono (by omega)) (by rfl) (pv 0) (nA_cons (nE_pure (dE_var (μ := true) (pv 2))) nA_nil)) nA_nil))))))
  (nSs_one (nS_app (K := K) (ps_expr (pe_bm PySem.F.plainAttrs_list PySem.F.slot_list_append PySem.F.type_list_append mt_append (pv 4) (nA_cons (nE_op o_add (nE_pure (dE_var (μ := true) (pv 7))) (nE_tup (nA_cons (nE_pure (dE_var (μ := true) (pv 6))) (nA_cons (nE_op o_add (nE_pure (dE_c (μ := true) pe_int)) (nE_draw C__law_draw (hr.mono (by omega)) (by rfl) (pv 0) (nA_cons (nE_pure (dE_c (μ := true) pe_int)) nA_nil))) nA_nil)))) nA_nil)))))))))
  (nSs_cons (nS_lc (K := K) (p := (.nm 5)) (ps_setLc (i := 8) (own := [("_law_turn", 5)]) (g := gP K (.nm 5)) rfl sc_law_world.nd rfl rfl (sw_true rfl rfl rfl (by decide +kernel)) (nI_ran1 (by rfl) m_range (nA_cons (nE_draw C__law_draw (hr.mono (by omega)) (by rfl) (pv 0) (nA_cons (nE_pure (dE_ix (dE_lst (dA_cons (dE_c (μ := true) pe_int) (dA_cons (dE_c (μ := true) pe_int) (dA_nil (μ := true))))) (dE_callTy c_int (by rfl) m_int (by decide +kernel) (dA_cons (dE_var (μ := true) (pv 1)) (dA_nil (μ := true)))))) nA_nil)) nA_nil)) (blkOk_by (own := [("_law_turn", 5)]) (N := ["_law_pool_here", "_law_wide", "_law_size", "_law_names", "_law_sources", "_law_turn", "_law_since", "_law_source", "_law_ways"]) (sc := defScope s_law_world) (by decide +kernel)) (fun _ _ _ _ _ => (pg_name (i := 5) sc_law_world.nd rfl (.inl rfl))) (fun _ _ _ _ _ => nTs_nil) (fun _ _ _ _ _ => (nE_draw C__law_way (hr.mono (by omega)) (by rfl) (pv 0) (nA_cons (nE_pure (dE_var (μ := true) (pv 2))) (nA_cons (nE_pure (dE_var (μ := true) (pv 3))) (nA_cons (nE_pure (dE_var (μ := true) (pv 1))) nA_nil)))))))
  (nSs_one (nS_retL (ps_ret (dE_tup (dA_cons (dE_var (μ := true) (pv 2)) (dA_cons (dE_callTy c_tuple (by rfl) m_tuple (by decide +kernel) (dA_cons (dE_var (μ := true) (pv 3)) (dA_nil (μ := true)))) (dA_cons (dE_callTy c_tuple (by rfl) m_tuple (by decide +kernel) (dA_cons (dE_var (μ := true) (pv 4)) (dA_nil (μ := true)))) (dA_cons (dE_callTy c_tuple (by rfl) m_tuple (by decide +kernel) (dA_cons (dE_var (μ := true) (pv 8)) (dA_nil (μ := true)))) (dA_nil (μ := true))))))))))))))), fun ds b Q l h => ?_⟩
  obtain ⟨rfl, hb, q⟩ := h
  refine ⟨.int 1, rfl, wNext (m := 4) rfl rfl (by decide) (by decide) (by omega) fun v1 b1 v10 v11 h1 => ⟨_, rfl, [some .pool, some (.dat (.bool false)), some (.dat (.int (1 + v1))), none, none, none, none, none, none], rfl, ?_⟩⟩
  refine wOne (items := [PyData.list [S "a"], .list [S "a", S "b"], .list [S "iron", S "x", S "y"], .list [S "a", S "aa", S "b", S "zzzzzzzz"]]) rfl rfl rfl (by simp) (by simp) (by omega) fun nm b2 nmm h2 => ?_
  obtain ⟨zs, rfl, hk, hnd⟩ := nms_mem nmm
  have hk1 := hk.k1
  have hk2 := hk.k4
  let ks : List D := zs.map .str
  have kl : ks.length = zs.length := List.length_map ..
  let R : List D → Option LV → Option LV → Option LV → Rho := fun L a b c => [some .pool, some (.dat (.bool false)), some (.dat (.int (1 + v1))), some (.dat (.list ks)), some (.own L), a, b, c, none]
  refine ⟨[some .pool, some (.dat (.bool false)), some (.dat (.int (1 + v1))), some (.dat (.list ks)), none, none, none, none, none], rfl, ?_⟩
  refine ⟨.list [], rfl, [], rfl, by show 4 < 9; decide, ?_⟩
  refine wNext (m := 4) rfl rfl (by decide) (by decide) (by omega) fun v3 b3 v30 v31 h3 => ⟨_, rfl, rgD 0 v3.toNat, ran1_ok (by omega) (by omega), forN_cost 6 9 (fun k ρ => ∃ (L : List Sr) (x y z : Option LV), ρ = R (L.map Sr.d) x y z ∧ L.length = k ∧ ∀ d ∈ L, d.ok (1 + v1) zs) (rgD 0 v3.toNat) 0 _ b3 (by rw [rgD_len]; omega) ⟨[], _, _, _, rfl, rfl, fun d hd => nomatch hd⟩ (by rw [rgD_len]; omega) (fun x hx k ρ b k6 i hb => ?_) (fun ρ b4 i h4 => ?_)⟩
  · obtain ⟨L, y1, y2, y3, rfl, ll, hL⟩ := i
    obtain ⟨t, ht, rfl⟩ := List.mem_map.mp hx
    refine ⟨R (L.map Sr.d) (some (.dat (.int (0 + t)))) y2 y3, rfl, fun Q' q' => ?_⟩
    refine ⟨rfl, .int 0, rfl, .int 0, rfl, wNext (m := 9) rfl rfl (by decide) (by decide) (by omega) fun v4 c4 v40 v41 g4 => wNext (m := 40) rfl rfl (by decide) (by decide) (by omega) fun v5 c5 v50 v51 g5 => ⟨.int 1000000, rfl, wNext (m := 4) rfl rfl (by decide) (by decide) (by omega) fun v6 c6 v60 v61 g6 => ⟨_, rfl, _, rfl, _, rfl, _, rfl, _, rfl, _, rfl, .list [.int 0, .int 0, .int v4, .int v5, .int (1000000 - v6)], rfl, _, rfl, rfl, ?_⟩⟩⟩
    refine oneL (by simp) (by simp) (by omega) fun sn c7 sm g7 => ?_
    obtain ⟨si, rfl, s0, s1⟩ : ∃ si : Int, sn = .int si ∧ 0 ≤ si ∧ si ≤ 1000000 := by
      simp only [List.mem_cons, List.not_mem_nil, or_false] at sm
      rcases sm with rfl | rfl | rfl | rfl | rfl <;> exact ⟨_, rfl, by omega, by omega⟩
    refine ⟨R (L.map Sr.d) (some (.dat (.int (0 + t)))) (some (.dat (.int si))) y3, rfl, ?_⟩
    refine wOne (items := ks) rfl rfl rfl (by omega) (by omega) (by omega) fun kd c8 km g8 => ?_
    obtain ⟨z, rfl, zm⟩ := mem_str km
    refine ⟨rfl, .int 0, rfl, .int 0, rfl, .int 1, rfl, wNext (m := 6) rfl rfl (by decide) (by decide) (by omega) fun v9 c9 v90 v91 g9 => ⟨.int 20, rfl, _, rfl, _, rfl, _, rfl, _, rfl, _, rfl, .list [.int 0, .int 0, .int 1, .int v9, .int 20], rfl, _, rfl, rfl, ?_⟩⟩
    refine oneL (by simp) (by simp) (by omega) fun ag c10 am g10 => ?_
    obtain ⟨ai, rfl, a0, a1⟩ : ∃ ai : Int, ag = .int ai ∧ 0 ≤ ai ∧ ai ≤ 20 := by
      simp only [List.mem_cons, List.not_mem_nil, or_false] at am
      rcases am with rfl | rfl | rfl | rfl | rfl <;> exact ⟨_, rfl, by omega, by omega⟩
    refine wNext (m := 1 + v1) rfl rfl (by omega) (by omega) (by omega) fun v11' c11 v110 v111 g11 => ⟨_, rfl, _, rfl, _, rfl, .tuple [.str z, .int ai, .int v11'], rfl, R (L.map Sr.d) (some (.dat (.int (0 + t)))) (some (.dat (.int si))) (some (.dat (.tuple [.str z, .int ai, .int v11']))), rfl, ?_⟩
    refine ⟨L.map Sr.d, rfl, .tuple [.str z, .int ai, .int v11'], rfl, .int si, rfl, .int 1, rfl, wNext (m := 9) rfl rfl (by decide) (by decide) (by omega) fun v12 c12 v120 v121 g12 => ⟨_, rfl, _, rfl, _, rfl, .tuple [.int si, .int (1 + v12)], rfl, Sr.d ⟨z, ai, v11', si, 1 + v12⟩, rfl, _, rfl, _, rfl, Nat.lt_of_lt_of_le (show (L.map Sr.d).length < 100 by rw [List.length_map]; omega) (by decide), q' _ c12 ⟨L ++ [⟨z, ai, v11', si, 1 + v12⟩], some (.dat (.int (0 + t))), some (.dat (.int si)), some (.dat (.tuple [.str z, .int ai, .int v11'])), ?_, by rw [List.length_append, ll]; rfl, fun d hd => ?_⟩ (by omega)⟩⟩
    · rw [List.map_append]
      rfl
    · rcases List.mem_append.mp hd with hd | hd
      · exact hL d hd
      · rw [List.mem_singleton.mp hd]
        exact ⟨zm, a0, a1, v110, v111, s0, s1, by show 0 ≤ 1 + v12; omega, by show 1 + v12 ≤ 9; omega⟩
  · obtain ⟨L, y1, y2, y3, rfl, ll, hL⟩ := i
    rw [rgD_len] at ll h4
    refine wNext (m := 4) rfl rfl (by decide) (by decide) (by omega) fun v5 b5 v50 v51 h5 => ⟨_, rfl, rgD 0 v5.toNat, ran1_ok (by omega) (by omega), ?_⟩
    have lm : (rgD 0 v5.toNat).length = v5.toNat := rgD_len _ _
    refine lcN_all 60 (fun d => ∃ y : Wy, d = y.d ∧ y.ok (1 + v1) zs) (rgD 0 v5.toNat) b5 _ (by rw [lm]; omega) (fun x hx b Q hb q => ?_) (fun ws b6 lw hws h6 => ?_)
    · obtain ⟨i, _, rfl⟩ := List.mem_map.mp hx
      refine ⟨_, rfl, rfl, .int (1 + v1), rfl, .list ks, rfl, .bool false, rfl, _, rfl, _, rfl, _, rfl, rfl, ⟨1 + v1, zs, rfl, hk, by omega, by omega⟩, hb, fun d n' pd hn => q d n' ?_ hn⟩
      obtain ⟨n2, zs2, y, e, e2, ok⟩ := pd
      injection e with e1 e
      injection e with e3 e
      injection e3 with e3
      cases int_i e1
      cases map_inj str_i e3
      exact ⟨y, e2, ok⟩
    rw [lm] at lw h6
    have cho : ∀ ws : List D, (∀ d ∈ ws, ∃ y : Wy, d = y.d ∧ y.ok (1 + v1) zs) → ∃ ys : List Wy, ws = ys.map Wy.d ∧ ∀ y ∈ ys, y.ok (1 + v1) zs := by
      intro ws
      induction ws with
      | nil => intro _; exact ⟨[], rfl, fun y h => nomatch h⟩
      | cons d ws ih =>
        intro h
        obtain ⟨y, rfl, hy⟩ := h d (by simp)
        obtain ⟨ys, rfl, hys⟩ := ih fun d hd => h d (by simp [hd])
        exact ⟨y :: ys, rfl, fun z hz => by
          rcases List.mem_cons.mp hz with rfl | hz
          · exact hy
          · exact hys z hz⟩
    obtain ⟨ys, rfl, hys⟩ := cho ws hws
    rw [List.length_map] at lw
    refine ⟨[some .pool, some (.dat (.bool false)), some (.dat (.int (1 + v1))), some (.dat (.list ks)), some (.own (L.map Sr.d)), y1, y2, y3, some (.dat (.list (ys.map Wy.d)))], rfl, ?_⟩
    refine ⟨Wd.d ⟨1 + v1, zs, L, ys⟩, rfl, ?_⟩
    exact q _ b6 ⟨⟨1 + v1, zs, L, ys⟩, rfl, ⟨by show 1 ≤ 1 + v1; omega, by show 1 + v1 ≤ 6; omega, hk1, hk2, hk.ks, by show L.length ≤ 6; omega, hL, by show ys.length ≤ 8; omega, hys⟩, hnd⟩ (by omega)
end
end Dl
namespace Dl
open PySem PySem.Spec PyProof.Rows L2 Rt
/-- small or far -/
def Fr (i : Int) : Prop := i ≤ 1000 ∨ 999999999999000 ≤ i
def FrS (s : List (Option Int)) : Prop := ∀ i, some i ∈ s → Fr i
def StF (n pl : Int) (s : List (Option Int)) : Prop := StG (1000000000001000 : Int) n pl s ∧ FrS s
def gOrigin : GF := gAny 3 (fun ds => ∃ n pl : Int, ds = [.int n, .int pl, .bool false] ∧ 1 ≤ n ∧ n ≤ 6 ∧ 0 ≤ pl ∧ pl < n) (fun ds d => ∃ n pl i : Int, ds = [.int n, .int pl, .bool false] ∧ d = .int i ∧ i % n = pl ∧ -20 ≤ i ∧ i ≤ (1000000000001000 : Int) ∧ Fr i)
def gStair : GF := gAny 20 (fun ds => ∃ n pl : Int, ds = [.int n, .int pl, .bool false] ∧ 1 ≤ n ∧ n ≤ 6 ∧ 0 ≤ pl ∧ pl < n) (fun ds d => ∃ (n pl : Int) (s : List (Option Int)), ds = [.int n, .int pl, .bool false] ∧ d = stD s ∧ StF n pl s)
/-- a good table: cells of their places, never rising, up to a bound -/
structure TbG (B : Int) (X : Wd) (t : Tb) : Prop where
  l : t.length = X.ks.length
  r : ∀ r ∈ t, r.length = X.n.toNat
  s : ∀ r ∈ t, ∀ (p : Nat) (s : List (Option Int)), r[p]? = some s → StG B X.n (p : Int) s
theorem TbG.ok {B : Int} {X : Wd} {t : Tb} (h : TbG B X t) (hB : B ≤ 3000000000000000) : tbOk X t := by
  refine ⟨h.l, h.r, fun r hr s hs => ?_, fun r hr s hs i hi => ?_⟩
  · obtain ⟨p, hp⟩ := List.getElem?_of_mem hs
    exact (h.s r hr p s hp).l
  · obtain ⟨p, hp⟩ := List.getElem?_of_mem hs
    have g := h.s r hr p s hp
    have h1 := g.lo i hi
    have h2 := g.hi i hi
    omega
def gTable : GF := gAny 500 (fun ds => ∃ X : Wd, ds = [X.d, .bool false] ∧ X.ok) (fun ds d => ∃ (X : Wd) (t : Tb), ds = [X.d, .bool false] ∧ d = tbD t ∧ TbG (1000000000001000 : Int) X t ∧ ∀ r ∈ t, ∀ s ∈ r, FrS s)
theorem mulX_int {i j : Int} (h : 0 ≤ i ∧ i ≤ 100) : mulX (.int i) (.int j) = some (.int (i * j)) := if_pos (.inl ⟨by omega, by omega⟩)
theorem bnd_mul {n v : Int} (n1 : 1 ≤ n) (n6 : n ≤ 6) (v0 : 0 ≤ v) (v1 : v < 60) : 0 ≤ n * v ∧ n * v ≤ 360 := by
  have a := Int.mul_nonneg (show 0 ≤ n by omega) v0
  have b : n * v ≤ 6 * v := Int.mul_le_mul_of_nonneg_right n6 v0
  omega
theorem al2_st {n : Int} {m : Nat} : ∀ {k : Nat} {ds : List D}, Al2 (fun x d => ∃ (pl : Nat) (s : List (Option Int)), x = .int ((0 : Int) + (pl : Nat)) ∧ d = stD s ∧ StF n (pl : Int) s) (rgD (k : Int) m) ds → ∃ r : List (List (Option Int)), ds = r.map stD ∧ r.length = m ∧ ∀ (p : Nat) (s : List (Option Int)), r[p]? = some s → StF n ((k + p : Nat) : Int) s := by
  induction m with
  | zero =>
    intro k ds h
    cases h
    exact ⟨[], rfl, rfl, fun p s e => nomatch e⟩
  | succ m ih =>
    intro k ds h
    rw [rgD_succ] at h
    cases h with
    | cons hx ht =>
      obtain ⟨pl, s, ex, rfl, hs⟩ := hx
      injection ex with ex
      have ht' := ht
      rw [show ((k : Int) + 1) = ((k + 1 : Nat) : Int) by omega] at ht'
      obtain ⟨r, rfl, hl, hr⟩ := ih ht'
      refine ⟨s :: r, rfl, by rw [List.length_cons, hl], fun p s' e => ?_⟩
      cases p with
      | zero =>
        cases e
        rw [show ((k + 0 : Nat) : Int) = (pl : Int) by omega]
        exact hs
      | succ p =>
        have := hr p s' e
        rwa [show k + 1 + p = k + (p + 1) by omega] at this
theorem cho {α : Type} {f : α → D} {P : α → Prop} : ∀ {ds : List D}, (∀ d ∈ ds, ∃ y, d = f y ∧ P y) → ∃ ys : List α, ds = ys.map f ∧ ∀ y ∈ ys, P y
  | [], _ => ⟨[], rfl, fun y h => nomatch h⟩
  | d :: ds, h => by
    obtain ⟨y, rfl, hy⟩ := h d (by simp)
    obtain ⟨ys, rfl, hys⟩ := cho fun d hd => h d (List.mem_cons_of_mem _ hd)
    exact ⟨y :: ys, rfl, fun z hz => by
      rcases List.mem_cons.mp hz with rfl | hz
      · exact hy
      · exact hys z hz⟩
section
variable {P : Program} {w : World} {K : PySem.W.Frag} {mg : Str → Option Value} {base : Heap}
theorem ok_origin {f : Addr} {fd : FuncData} (F : Fun K "_law_origin" "_law_origin" s_law_origin f fd) (m_int : mg "int" = none) (C__law_draw : Cl P w K mg base 1 "_law_draw" ["_law_pool_here", "_law_many"] (spN 1 gNext)) (C__law_any : Cl P w K mg base 2 "_law_any" ["_law_pool_here", "_law_some"] (spN 1 gOne)) : FnOk P w K mg base CX0 3 f fd ["_law_pool_here", "_law_size", "_law_place", "_law_peaks"] (spN 3 gOrigin) := by
  refine okFnN F sc_law_origin rfl fun cdv A outer s H E hr => ⟨_, (nSs_cons (nS_asg (K := K) (p := .nm 4) (ps_set (i := 4) sc_law_origin.nd rfl (.inl rfl) (nE_pure (dE_op o_add (dE_neg (dE_c (μ := true) pe_int)) (dE_op o_mod (dE_op o_add (dE_var (μ := true) (pv 2)) (dE_c (μ := true) pe_int)) (dE_var (μ := true) (pv 1)))))))
  (nSs_cons (nS_asg (K := K) (p := .nm 5) (ps_set (i := 5) sc_law_origin.nd rfl (.inl rfl) (nE_pure (dE_op o_add (dE_var (μ := true) (pv 4)) (dE_op o_mulX (dE_var (μ := true) (pv 1)) (dE_op o_fdiv (dE_op o_pow (dE_c (μ := true) pe_int) (dE_c (μ := true) pe_int)) (dE_var (μ := true) (pv 1))))))))
  (nSs_cons (nS_asg (K := K) (p := .nm 6) (ps_set (i := 6) sc_law_origin.nd rfl (.inl rfl) (nE_pure (dE_ix (dE_lst (dA_cons (dE_var (μ := true) (pv 5)) (dA_cons (dE_op o_sub (dE_op o_mulX (dE_c (μ := true) pe_int) (dE_op o_pow (dE_c (μ := true) pe_int) (dE_c (μ := true) pe_int))) (dE_op o_mod (dE_op o_sub (dE_op o_mulX (dE_c (μ := true) pe_int) (dE_op o_pow (dE_c (μ := true) pe_int) (dE_c (μ := true) pe_int))) (dE_var (μ := true) (pv 2))) (dE_var (μ := true) (pv 1)))) (dA_nil (μ := true))))) (dE_callTy c_int (by rfl) m_int (by decide +kernel) (dA_cons (dE_var (μ := true) (pv 3)) (dA_nil (μ := true))))))))
  (nSs_one (nS_ret (ps_ret (nE_draw C__law_any (hr.mono (by omega)) (by rfl) (pv 0) (nA_cons (nE_lst (nA_cons (nE_pure (dE_var (μ := true) (pv 4))) (nA_cons (nE_op o_add (nE_pure (dE_var (μ := true) (pv 4))) (nE_op o_mulX (nE_pure (dE_var (μ := true) (pv 1))) (nE_draw C__law_draw (hr.mono (by omega)) (by rfl) (pv 0) (nA_cons (nE_pure (dE_c (μ := true) pe_int)) nA_nil)))) (nA_cons (nE_op o_add (nE_pure (dE_var (μ := true) (pv 4))) (nE_op o_mulX (nE_pure (dE_var (μ := true) (pv 1))) (nE_draw C__law_draw (hr.mono (by omega)) (by rfl) (pv 0) (nA_cons (nE_pure (dE_c (μ := true) pe_int)) nA_nil)))) (nA_cons (nE_pure (dE_var (μ := true) (pv 5))) (nA_cons (nE_pure (dE_var (μ := true) (pv 6))) nA_nil)))))) nA_nil)))))))), fun ds b Q l h => ?_⟩
  obtain ⟨⟨n, pl, rfl, n1, n6, p0, p1⟩, hb, q⟩ := h
  have n0 : 0 < n := by omega
  have r0 := Int.emod_nonneg (pl + 20) (show n ≠ 0 by omega)
  have r1 := Int.emod_lt_of_pos (pl + 20) n0
  have q0 := Int.emod_nonneg (3000000000000000 - pl) (show n ≠ 0 by omega)
  have q1 := Int.emod_lt_of_pos (3000000000000000 - pl) n0
  have f0 : 0 ≤ n * (1000000000000000 / n) := Int.mul_nonneg (by omega) (Int.ediv_nonneg (by decide) (by omega))
  have f1 : n * (1000000000000000 / n) ≤ 1000000000000000 := Int.mul_ediv_self_le (by omega)
  have f2 := Int.mul_ediv_add_emod 1000000000000000 n
  have f3 := Int.emod_lt_of_pos 1000000000000000 n0
  let R : Option LV → Option LV → Option LV → Rho := fun a b c => [some .pool, some (.dat (.int n)), some (.dat (.int pl)), some (.dat (.bool false)), a, b, c]
  refine ⟨.int (-20 + (pl + 20) % n), ev_e2 (a := .int (-20)) (b := .int ((pl + 20) % n)) rfl (ev_e2 (a := .int (pl + 20)) (b := .int n) rfl rfl (if_pos n0)) rfl, R (some (.dat (.int (-20 + (pl + 20) % n)))) none none, rfl, ?_⟩
  generalize hle : -20 + (pl + 20) % n = le
  refine ⟨.int (le + n * (1000000000000000 / n)), ev_e2 (a := .int le) (b := .int (n * (1000000000000000 / n))) rfl (ev_e2 (a := .int n) (b := .int (1000000000000000 / n)) rfl (ev_e2 (a := .int 1000000000000000) (b := .int n) rfl rfl (if_pos ⟨n0, by omega⟩)) (mulX_int ⟨by omega, by omega⟩)) rfl, R (some (.dat (.int le))) (some (.dat (.int (le + n * (1000000000000000 / n))))) none, rfl, ?_⟩
  generalize hfa : le + n * (1000000000000000 / n) = fa
  refine ⟨.int fa, ev_e2 (a := .list [.int fa, .int (3000000000000000 - (3000000000000000 - pl) % n)]) (b := .int 0) (ev_lstX (ev_cons rfl (ev_cons (ev_e2 (a := .int 3000000000000000) (b := .int ((3000000000000000 - pl) % n)) rfl (ev_e2 (a := .int (3000000000000000 - pl)) (b := .int n) rfl rfl (if_pos n0)) rfl) rfl)) (by simp)) rfl rfl, R (some (.dat (.int le))) (some (.dat (.int fa))) (some (.dat (.int fa))), rfl, ?_⟩
  refine ⟨rfl, .int le, rfl, .int le, rfl, .int n, rfl, wNext (m := 15) rfl rfl (by decide) (by decide) (by omega) fun v1 b1 v10 v11 h1 => ⟨_, mulX_int ⟨by omega, by omega⟩, _, rfl, .int le, rfl, .int n, rfl, wNext (m := 60) rfl rfl (by decide) (by decide) (by omega) fun v2 b2 v20 v21 h2 => ⟨_, mulX_int ⟨by omega, by omega⟩, _, rfl, .int fa, rfl, .int fa, rfl, _, rfl, _, rfl, _, rfl, _, rfl, _, rfl, .list [.int le, .int (le + n * v1), .int (le + n * v2), .int fa, .int fa], rfl, _, rfl, rfl, ?_⟩⟩⟩
  have m1 := bnd_mul n1 n6 v10 (by omega : v1 < 60)
  have m2 := bnd_mul n1 n6 v20 v21
  refine oneL (by simp) (by simp) (by omega) fun d b3 dm h3 => q d b3 ?_ (by omega)
  simp only [List.mem_cons, List.not_mem_nil, or_false] at dm
  have rle : le % n = pl := by
    rw [← hle, show -20 + (pl + 20) % n = (pl + 20) % n + -20 by omega, Int.emod_add_emod, show pl + 20 + -20 = pl by omega]
    exact Int.emod_eq_of_lt p0 p1
  have rad : ∀ v : Int, (le + n * v) % n = pl := fun v => by rw [Int.add_mul_emod_self_left]; exact rle
  rcases dm with rfl | rfl | rfl | rfl | rfl
  · exact ⟨n, pl, _, rfl, rfl, rle, by omega, by omega, .inl (by omega)⟩
  · exact ⟨n, pl, _, rfl, rfl, rad _, by omega, by omega, .inl (by omega)⟩
  · exact ⟨n, pl, _, rfl, rfl, rad _, by omega, by omega, .inl (by omega)⟩
  · exact ⟨n, pl, _, rfl, rfl, by rw [← hfa]; exact rad _, by omega, by omega, .inr (by omega)⟩
  · exact ⟨n, pl, _, rfl, rfl, by rw [← hfa]; exact rad _, by omega, by omega, .inr (by omega)⟩
theorem ok_stair {f : Addr} {fd : FuncData} (F : Fun K "_law_stair" "_law_stair" s_law_stair f fd) (m_range : mg "range" = none) (m_tuple : mg "tuple" = none) (C__law_draw : Cl P w K mg base 1 "_law_draw" ["_law_pool_here", "_law_many"] (spN 1 gNext)) (C__law_origin : Cl P w K mg base 3 "_law_origin" ["_law_pool_here", "_law_size", "_law_place", "_law_peaks"] (spN 3 gOrigin)) : FnOk P w K mg base CX0 4 f fd ["_law_pool_here", "_law_size", "_law_place", "_law_peaks"] (spN 3 gStair) := by
  refine okFnN F sc_law_stair rfl fun cdv A outer s H E hr => ⟨_, (nSs_cons (nS_own (ps_set (i := 4) sc_law_stair.nd rfl (.inl rfl) (nN_pure (oE_rep (dE_lst (dA_cons (dE_c (μ := true) pe_non) (dA_nil (μ := true)))) (dE_c (μ := true) pe_int)))))
  (nSs_cons (nS_for (K := K) (p := (.nm 5)) (ps_for PassesOwn.never rfl (nI_ran1 (by rfl) m_range (nA_cons (nE_draw C__law_draw (hr.mono (by omega)) (by rfl) (pv 0) (nA_cons (nE_pure (dE_c (μ := true) pe_int)) nA_nil)) nA_nil)) (pg_name (i := 5) sc_law_stair.nd rfl (.inl rfl))
    (nSs_cons (nS_par (ps_par (i := 6) (j := 7) (by rfl) sc_law_stair.nd rfl rfl (by decide) rfl rfl (nA_cons (nE_draw C__law_origin (hr.mono (by omega)) (by rfl) (pv 0) (nA_cons (nE_pure (dE_var (μ := true) (pv 1))) (nA_cons (nE_pure (dE_var (μ := true) (pv 2))) (nA_cons (nE_pure (dE_var (μ := true) (pv 3))) nA_nil)))) (nA_cons (nE_draw C__law_draw (hr.mono (by omega)) (by rfl) (pv 0) (nA_cons (nE_pure (dE_c (μ := true) pe_int)) nA_nil)) nA_nil)) (by rfl)))
  (nSs_one (nS_for (K := K) (p := (.nm 8)) (ps_for PassesOwn.never rfl (nI_pure (dI_ran2 (by rfl) m_range (dA_cons (dE_var (μ := true) (pv 7)) (dA_cons (dE_c (μ := true) pe_int) (dA_nil (μ := true)))))) (pg_name (i := 8) sc_law_stair.nd rfl (.inl rfl))
    (nSs_one (nS_if (nT_loose (PW.pt (dW_or (dT_cmp o_is (dE_ix (dE_var (μ := true) (pv 4)) (dE_var (μ := true) (pv 8))) (dE_c (μ := true) pe_non) (nomark _)) (dW_or1 (dT_cmp o_gt (dE_ix (dE_var (μ := true) (pv 4)) (dE_var (μ := true) (pv 8))) (dE_var (μ := true) (pv 6)) (nomark _))))))
    (nSs_one (nS_put (ps_asg (nE_pure (dE_var (μ := true) (pv 6))) (pg_sub (pv 4) (nE_pure (dE_var (μ := true) (pv 8))) set_listL))))
    nSs_nil))))))))
  (nSs_one (nS_retL (ps_ret (dE_callTy c_tuple (by rfl) m_tuple (by decide +kernel) (dA_cons (dE_var (μ := true) (pv 4)) (dA_nil (μ := true))))))))), fun ds b Q l h => ?_⟩
  obtain ⟨⟨n, pl, rfl, n1, n6, p0, p1⟩, hb, q⟩ := h
  let R : List (Option Int) → Option LV → Option LV → Option LV → Option LV → Rho := fun s a b c d => [some .pool, some (.dat (.int n)), some (.dat (.int pl)), some (.dat (.bool false)), some (.own (s.map celD)), a, b, c, d]
  refine ⟨.list (List.replicate 27 [PyData.none]).flatten, rfl, _, rfl, by show 4 < 9; decide, ?_⟩
  refine wNext (m := 4) rfl rfl (by decide) (by decide) (by omega) fun v1 b1 v10 v11 h1 => ⟨_, rfl, rgD 0 v1.toNat, ran1_ok (by omega) (by omega), forN_cost 3 4 (fun k ρ => ∃ s x y z u, ρ = R s x y z u ∧ StF n pl s) (rgD 0 v1.toNat) 0 _ b1 (by rw [rgD_len]; omega) ⟨List.replicate 27 none, _, _, _, _, rfl, nones_g, fun i hi => nomatch (List.mem_replicate.mp hi).2⟩ (by rw [rgD_len]; omega) (fun x hx k ρ b k3 i hb => ?_) (fun ρ b4 i h4 => ?_)⟩
  · obtain ⟨s, y1, y2, y3, y4, rfl, hs, hfr⟩ := i
    obtain ⟨t, ht, rfl⟩ := List.mem_map.mp hx
    refine ⟨R s (some (.dat (.int (0 + t)))) y2 y3 y4, rfl, fun Q' q' => ?_⟩
    refine ⟨rfl, .int n, rfl, .int pl, rfl, .bool false, rfl, _, rfl, _, rfl, _, rfl, rfl, ⟨n, pl, rfl, n1, n6, p0, p1⟩, by omega, fun nm c2 hnm g2 => ?_⟩
    obtain ⟨n', pl', nu, e, rfl, hnr, hn0, hn1, hnf⟩ := hnm
    injection e with ea e
    injection e with eb e
    cases int_i ea
    cases int_i eb
    clear e ea eb
    refine wNext (m := 27) rfl rfl (by decide) (by decide) (by omega) fun bg c3 bg0 bg1 g3 => ⟨_, rfl, _, rfl, _, _, rfl, ?_⟩
    obtain ⟨g, rfl⟩ : ∃ g : Nat, bg = g := ⟨bg.toNat, by omega⟩
    have r2 := ran2_ok (i := (g : Int)) (j := 27) (by omega) (by omega) (by omega) (by omega) (by omega)
    have e27 : ((27 : Int) - (g : Int)).toNat = 27 - g := by omega
    rw [e27] at r2
    have sl := hs.l
    have main := forN_rg (p := .nm 8) (Q := Q') 0 0 (fun j ρ => ∃ z, ρ = R (lowR s g j nu) (some (.dat (.int (0 + t)))) (some (.dat (.int nu))) (some (.dat (.int (g : Int)))) z) (27 - g) g (R s (some (.dat (.int (0 + t)))) (some (.dat (.int nu))) (some (.dat (.int (g : Int)))) y4) c3 ⟨_, by rw [lowR_none]⟩ (by omega) (body := swIf (wTL (oOr (oB (e2 isND (e2 ixD (eVar 4) (eVar 8)) (eC .none))) (oB (e2 gtD (e2 ixD (eVar 4) (eVar 8)) (eVar 6))))) (swPut 4 (wP (eVar 6)) (wP (eVar 8))) swNil) (fun j ρ b hj1 hj2 i hb => ?_) (fun ρ' b' i hb' => ?_)
    · rw [Int.zero_add] at main
      exact ⟨_, ev_itG (ds := [.int (g : Int), .int 27]) rfl r2, main⟩
    · obtain ⟨z, rfl⟩ := i
      rw [Int.zero_add]
      refine ⟨R (lowR s g j nu) (some (.dat (.int (0 + t)))) (some (.dat (.int nu))) (some (.dat (.int (g : Int)))) (some (.dat (.int (j : Int)))), rfl, fun Q'' q'' => ?_⟩
      obtain ⟨c, hc⟩ : ∃ c, s[j]? = some c := ⟨_, List.getElem?_eq_getElem (by omega)⟩
      obtain ⟨st1, st2⟩ := lowR_step (x := nu) hc hj1
      have ix : e2 ixD (eVar 4) (eVar 8) (shutR false (R (lowR s g j nu) (some (.dat (.int (0 + t)))) (some (.dat (.int nu))) (some (.dat (.int (g : Int)))) (some (.dat (.int (j : Int)))))) = some (celD c) := ev_e2 (a := .list ((lowR s g j nu).map celD)) (b := .int (j : Int)) rfl rfl (at_map st2)
      have put : lowC c nu = some nu → (swPut 4 (wP (eVar 6)) (wP (eVar 8))).w (R (lowR s g j nu) (some (.dat (.int (0 + t)))) (some (.dat (.int nu))) (some (.dat (.int (g : Int)))) (some (.dat (.int (j : Int))))) b Q'' := fun hlc => by
        refine ⟨.int nu, rfl, (lowR s g j nu).map celD, rfl, .int (j : Int), rfl, (j : Int), j, rfl, ixN_in (by omega) (by rw [List.length_map, lowR_len]; omega), q'' _ b ⟨some (.dat (.int (j : Int))), ?_⟩ (by omega)⟩
        rw [st1, hlc]
        show [some LV.pool, _, _, _, some (LV.own (((lowR s g j nu).map celD).set j (.int nu))), _, _, _, _] = [some LV.pool, _, _, _, some (LV.own (((lowR s g j nu).set j (some nu)).map celD)), _, _, _, _]
        rw [List.map_set]
        rfl
      cases c with
      | none => exact ⟨true, (ev_oOr (b := true) (ev_oB (ev_e2 (a := .none) (b := .none) ix rfl rfl))).trans rfl, put rfl⟩
      | some i =>
        refine ⟨decide (i > nu), (ev_oOr (b := false) (ev_oB (ev_e2 (a := .int i) (b := .none) ix rfl rfl))).trans (ev_oB (ev_e2 (a := .int i) (b := .int nu) ix rfl rfl)), ?_⟩
        refine iteB (c := decide (i > nu)) (fun h => put ?_) (fun h => ?_)
        · show some (if i > nu then nu else i) = _
          rw [if_pos (of_decide_eq_true h)]
        · have h := of_decide_eq_false h
          refine q'' _ b ⟨some (.dat (.int (j : Int))), ?_⟩ (by omega)
          have : lowR s g (j + 1) nu = lowR s g j nu := by
            rw [st1]
            show (lowR s g j nu).set j (some (if i > nu then nu else i)) = _
            rw [if_neg h]
            apply List.ext_getElem?
            intro a
            rw [List.getElem?_set]
            by_cases e : j = a
            · subst e
              rw [if_pos rfl, if_pos (by rw [lowR_len]; omega), st2]
            · rw [if_neg e]
          rw [this]
    · obtain ⟨z, rfl⟩ := i
      rw [show g + (27 - g) = 27 by omega]
      exact q' _ b' ⟨_, _, _, _, _, rfl, hs.low hnr hn0 hn1, fun i hi => (lowR_mem hi).elim (fun z => hfr i z) (fun z => by rw [z]; exact hnf)⟩ (by omega)
  · obtain ⟨s, y1, y2, y3, y4, rfl, hs⟩ := i
    rw [rgD_len] at h4
    exact ⟨stD s, rfl, q _ b4 ⟨n, pl, s, rfl, rfl, hs⟩ (by omega)⟩
theorem ok_tableN {f : Addr} {fd : FuncData} (F : Fun K "_law_table" "_law_table" s_law_table f fd) (m_range : mg "range" = none) (m_tuple : mg "tuple" = none) (C__law_stair : Cl P w K mg base 4 "_law_stair" ["_law_pool_here", "_law_size", "_law_place", "_law_peaks"] (spN 3 gStair)) : FnOk P w K mg base CX0 5 f fd ["_law_pool_here", "_law_world_here", "_law_peaks"] (spN 2 gTable) := by
  refine okFnN F sc_law_table rfl fun cdv A outer s H E hr => ⟨_, (nSs_cons (nS_asg (K := K) (p := .nm 3) (ps_set (i := 3) sc_law_table.nd rfl (.inr rfl) (nE_pure (dE_ix (dE_var (μ := true) (pv 1)) (dE_c (μ := true) pe_int)))))
  (nSs_one (nS_ret (ps_ret (nE_callTy c_tuple (by rfl) m_tuple (by decide +kernel) (nA_cons (nE_lc (K := K) (p := (.nm 4)) (pe_lc (own := [("_law_kind", 4)]) (g := gP K (.nm 4)) rfl sc_law_table.nd (nI_pure (dI_seq (dE_ix (dE_var (μ := true) (pv 1)) (dE_c (μ := true) pe_int)))) (blkOk_by (own := [("_law_kind", 4)]) (N := ["_law_pool_here", "_law_world_here", "_law_peaks", "_law_size", "_law_kind", "_law_place"]) (sc := defScope s_law_table) (by decide +kernel)) (fun _ _ _ _ _ => (pg_name (i := 4) sc_law_table.nd rfl (.inl rfl))) (fun _ _ _ _ _ => nTs_nil) (fun _ _ _ _ _ => (nE_callTy c_tuple (by rfl) m_tuple (by decide +kernel) (nA_cons (nE_lc (K := K) (p := (.nm 5)) (pe_lc (own := [("_law_place", 5)]) (g := gP K (.nm 5)) rfl sc_law_table.nd (nI_pure (dI_ran1 (by rfl) m_range (dA_cons (dE_var (μ := true) (pv 3)) (dA_nil (μ := true))))) (by exact blkOk_by (own := [("_law_place", 5)]) (by rfl)) (fun _ _ _ _ _ => (pg_name (i := 5) sc_law_table.nd rfl (.inl rfl))) (fun _ _ _ _ _ => nTs_nil) (fun _ _ _ _ _ => (nE_draw C__law_stair (hr.mono (by omega)) (by rfl) (pv 0) (nA_cons (nE_pure (dE_var (μ := true) (pv 3))) (nA_cons (nE_pure (dE_var (μ := true) (pv 5))) (nA_cons (nE_pure (dE_var (μ := true) (pv 2))) nA_nil))))))) nA_nil))))) nA_nil)))))), fun ds b Q l h => ?_⟩
  obtain ⟨⟨X, rfl, hX⟩, hb, q⟩ := h
  have n1 := hX.n1
  have n6 := hX.n6
  have hk1 := hX.k1
  have hk2 := hX.k4
  refine ⟨.int X.n, rfl, [some .pool, some (.dat X.d), some (.dat (.bool false)), some (.dat (.int X.n)), none, none], rfl, ?_⟩
  let ks : List D := X.ks.map .str
  have kl : ks.length = X.ks.length := List.length_map ..
  refine ⟨ks, rfl, ?_⟩
  refine lcN_all 120 (fun d => ∃ r : List (List (Option Int)), d = rwD r ∧ (r.length = X.n.toNat ∧ ∀ (p : Nat) (s : List (Option Int)), r[p]? = some s → StF X.n (p : Int) s)) ks b _ (by omega) (fun x hx b Q hb q => ?_) (fun rows b2 lr hr2 h2 => ?_)
  · refine ⟨[some .pool, some (.dat X.d), some (.dat (.bool false)), some (.dat (.int X.n)), some (.dat x), none], rfl, ?_⟩
    refine ⟨rgD 0 X.n.toNat, ev_itG (ds := [.int X.n]) rfl (ran1_ok (by omega) (by omega)), ?_⟩
    have ln : (rgD 0 X.n.toNat).length = X.n.toNat := rgD_len _ _
    refine lcN_rel 20 (fun x d => ∃ (pl : Nat) (s : List (Option Int)), x = .int ((0 : Int) + (pl : Nat)) ∧ d = stD s ∧ StF X.n (pl : Int) s) (rgD 0 X.n.toNat) b _ (by rw [ln]; omega) (fun y hy b Q hb q => ?_) (fun sts b3 hs3 h3 => ?_)
    · obtain ⟨i, hi, rfl⟩ := List.mem_map.mp hy
      have hi := List.mem_range.mp hi
      refine ⟨_, rfl, rfl, .int X.n, rfl, .int (0 + i), rfl, .bool false, rfl, _, rfl, _, rfl, _, rfl, rfl, ⟨X.n, 0 + i, rfl, n1, n6, by omega, by omega⟩, hb, fun d n' pd hn => q d n' ?_ hn⟩
      obtain ⟨n'', pl, s, e, rfl, hs⟩ := pd
      injection e with e1 e
      injection e with e2 e
      have e1 := int_i e1
      have e2 := int_i e2
      subst e1
      exact ⟨i, s, rfl, rfl, by rw [show (i : Int) = pl by omega]; exact hs⟩
    rw [ln] at h3
    obtain ⟨r, rfl, rl, hr⟩ := al2_st (k := 0) hs3
    exact ⟨_, rfl, rwD r, rfl, q _ b3 ⟨r, rfl, rl, fun p s e => by have := hr p s e; rwa [Nat.zero_add] at this⟩ (by omega)⟩
  · obtain ⟨t, rfl, ht⟩ := cho hr2
    rw [List.length_map] at lr
    exact ⟨_, rfl, tbD t, rfl, q _ b2 ⟨X, t, rfl, rfl, ⟨by omega, fun r hr => (ht r hr).1, fun r hr p s e => ((ht r hr).2 p s e).1⟩, fun r hr s hs => by
      obtain ⟨p, hp⟩ := List.getElem?_of_mem hs
      exact ((ht r hr).2 p s hp).2⟩ (by omega)⟩
end
end Dl
namespace Dl
open PySem PySem.Spec PyProof.Rows L2 Rt
/-! ### sums over the cells of a table -/
def smS (f : Option Int → Nat) (s : List (Option Int)) : Nat := (s.map f).sum
def smR (f : Option Int → Nat) (r : List (List (Option Int))) : Nat := (r.map (smS f)).sum
def smT (f : Option Int → Nat) (t : Tb) : Nat := (t.map (smR f)).sum
theorem sum_set {α : Type} {f : α → Nat} : ∀ {xs : List α} {i : Nat} {x y : α}, xs[i]? = some x → ((xs.set i y).map f).sum + f x = (xs.map f).sum + f y
  | [], _, _, _, h => nomatch h
  | x :: xs, 0, _, y, h => by
    cases h
    show f y + (xs.map f).sum + f x = f x + (xs.map f).sum + f y
    omega
  | z :: xs, i + 1, x, y, h => by
    have := sum_set (f := f) (y := y) (show xs[i]? = some x from h)
    show f z + ((xs.set i y).map f).sum + f x = f z + (xs.map f).sum + f y
    omega
theorem sum_le {α : Type} {f : α → Nat} {m : Nat} : ∀ {xs : List α}, (∀ x ∈ xs, f x ≤ m) → (xs.map f).sum ≤ xs.length * m
  | [], _ => Nat.zero_le _
  | x :: xs, h => by
    have h1 := h x (by simp)
    have h2 := sum_le (f := f) (m := m) (xs := xs) fun y hy => h y (by simp [hy])
    rw [List.map_cons, List.sum_cons, List.length_cons, Nat.add_mul, Nat.one_mul]
    omega
theorem smS_low {f : Option Int → Nat} {x : Int} : ∀ {s : List (Option Int)} {lo : Nat}, (∀ c ∈ s, f (lowC c x) ≤ f c) → smS f (lowR s lo 27 x) ≤ smS f s ∧ ∀ (b : Nat) (c : Option Int), s[b]? = some c → lo ≤ b → b < 27 → f (lowC c x) < f c → smS f (lowR s lo 27 x) < smS f s := by
  have gen : ∀ (s : List (Option Int)) (lo hi : Nat), (∀ c ∈ s, f (lowC c x) ≤ f c) → smS f (lowR s lo hi x) ≤ smS f s ∧ ∀ (b : Nat) (c : Option Int), s[b]? = some c → lo ≤ b → b < hi → f (lowC c x) < f c → smS f (lowR s lo hi x) < smS f s := by
    intro s
    induction s with
    | nil => exact fun lo hi _ => ⟨Nat.le_refl _, fun b c e => nomatch e⟩
    | cons y s ih =>
      intro lo hi h
      have e : lowR (y :: s) lo hi x = (if lo ≤ 0 ∧ 0 < hi then lowC y x else y) :: lowR s (lo - 1) (hi - 1) x := by
        apply List.ext_getElem?
        intro a
        rw [lowR_get]
        cases a with
        | zero => rfl
        | succ a =>
          show (s[a]?).map _ = (lowR s (lo - 1) (hi - 1) x)[a]?
          rw [lowR_get]
          cases s[a]? with
          | none => rfl
          | some c =>
            show some (if lo ≤ a + 1 ∧ a + 1 < hi then lowC c x else c) = some (if lo - 1 ≤ a ∧ a < hi - 1 then lowC c x else c)
            by_cases h2 : lo ≤ a + 1 ∧ a + 1 < hi
            · rw [if_pos h2, if_pos (by omega)]
            · rw [if_neg h2, if_neg (by omega)]
      obtain ⟨i1, i2⟩ := ih (lo - 1) (hi - 1) fun c hc => h c (by simp [hc])
      have h0 := h y (by simp)
      have hy : f (if lo ≤ 0 ∧ 0 < hi then lowC y x else y) ≤ f y := by
        by_cases h2 : lo ≤ 0 ∧ 0 < hi
        · rw [if_pos h2]; exact h0
        · rw [if_neg h2]; exact Nat.le_refl _
      rw [e]
      refine ⟨?_, fun b c eb hb hb2 hlt => ?_⟩
      · show f (if lo ≤ 0 ∧ 0 < hi then lowC y x else y) + smS f (lowR s (lo - 1) (hi - 1) x) ≤ f y + smS f s
        omega
      · show f (if lo ≤ 0 ∧ 0 < hi then lowC y x else y) + smS f (lowR s (lo - 1) (hi - 1) x) < f y + smS f s
        cases b with
        | zero =>
          cases eb
          rw [if_pos ⟨by omega, hb2⟩]
          omega
        | succ b =>
          have := i2 b c eb (by omega) (by omega) hlt
          omega
  exact fun {s lo} h => gen s lo 27 h
/-! ### what is put -/
def putT (X : Wd) (t : Tb) (k : Str) (o a : Int) : Tb := match firstI k X.ks with
  | none => t
  | some j => t.set j (((t[j]?).getD []).set (o % X.n).toNat (lowR ((((t[j]?).getD [])[(o % X.n).toNat]?).getD []) a.toNat 27 o))
def mn (b : Int) : Int := if 26 < b then 26 else b
theorem mn_0 {b : Int} (h : 0 ≤ b) : 0 ≤ mn b := by unfold mn; split <;> omega
theorem mn_26 (b : Int) : mn b ≤ 26 := by unfold mn; split <;> omega
theorem mn_le (b : Int) : mn b ≤ b := by unfold mn; split <;> omega
theorem mn_mono {a b : Int} (h : a ≤ b) : mn a ≤ mn b := by unfold mn; split <;> split <;> omega
theorem mn_id {a : Int} (h : a ≤ 26) : mn a = a := by unfold mn; rw [if_neg (by omega)]
structure At (B : Int) (X : Wd) (t : Tb) (k : Str) (p : Int) (j : Nat) (r : List (List (Option Int))) (s : List (Option Int)) : Prop where
  hf : firstI k X.ks = some j
  ht : t[j]? = some r
  hr : r[(p % X.n).toNat]? = some s
  hg : StG B X.n (p % X.n) s
  hc : ∀ a, cl X t k p a = (s[(mn a).toNat]?).getD none
theorem cl_at {X : Wd} {t : Tb} {k : Str} {p a : Int} {j : Nat} {r : List (List (Option Int))} {s : List (Option Int)} (hf : firstI k X.ks = some j) (ht : t[j]? = some r) (hr : r[(p % X.n).toNat]? = some s) : cl X t k p a = (s[(mn a).toNat]?).getD none := by
  unfold cl celQ
  rw [hf]
  show ((t[j]?).bind _).getD none = _
  rw [ht]
  show ((r[(p % X.n).toNat]?).bind _).getD none = _
  rw [hr]
  rfl
theorem TbG.at {B : Int} {X : Wd} {t : Tb} (h : TbG B X t) (hX : X.ok) {k : Str} (hk : k ∈ X.ks) (p : Int) : ∃ j r s, At B X t k p j r s := by
  obtain ⟨j, hj, jl⟩ := firstI.has hk
  have n1 := hX.n1
  have q0 := Int.emod_nonneg p (show X.n ≠ 0 by omega)
  have q1 := Int.emod_lt_of_pos p (show 0 < X.n by omega)
  have hl := h.l
  obtain ⟨r, hr⟩ : ∃ r, t[j]? = some r := ⟨_, List.getElem?_eq_getElem (by omega)⟩
  have rm := List.mem_of_getElem? hr
  have rl := h.r r rm
  obtain ⟨s, hs⟩ : ∃ s, r[(p % X.n).toNat]? = some s := ⟨_, List.getElem?_eq_getElem (by omega)⟩
  have g := h.s r rm _ s hs
  rw [show (((p % X.n).toNat : Nat) : Int) = p % X.n by omega] at g
  refine ⟨j, r, s, hj, hr, hs, g, fun a => ?_⟩
  unfold cl celQ
  rw [hj]
  show ((t[j]?).bind _).getD none = _
  rw [hr]
  show ((r[(p % X.n).toNat]?).bind _).getD none = _
  rw [hs]
  rfl
theorem cl_mod {X : Wd} {t : Tb} {k : Str} {p q a : Int} (h : p % X.n = q % X.n) : cl X t k p a = cl X t k q a := by
  unfold cl celQ
  rw [h]
theorem TbG.res {B : Int} {X : Wd} {t : Tb} (h : TbG B X t) (hX : X.ok) {k : Str} (hk : k ∈ X.ks) {p a i : Int} (e : cl X t k p a = some i) : i % X.n = p % X.n ∧ -20 ≤ i ∧ i ≤ B := by
  obtain ⟨j, r, s, A⟩ := h.at hX hk p
  rw [A.hc a] at e
  cases hs : s[(mn a).toNat]? with
  | none => rw [hs] at e; cases e
  | some c =>
    rw [hs] at e
    have e : c = some i := e
    subst e
    have m := List.mem_of_getElem? hs
    exact ⟨A.hg.res i m, A.hg.lo i m, A.hg.hi i m⟩
theorem TbG.mon {B : Int} {X : Wd} {t : Tb} (h : TbG B X t) (hX : X.ok) {k : Str} (hk : k ∈ X.ks) {p a b i : Int} (a0 : 0 ≤ a) (ab : a ≤ b) (e : cl X t k p a = some i) : ∃ i', cl X t k p b = some i' ∧ i' ≤ i := by
  obtain ⟨j, r, s, A⟩ := h.at hX hk p
  rw [A.hc a] at e
  rw [A.hc b]
  have sl := A.hg.l
  cases hs : s[(mn a).toNat]? with
  | none => rw [hs] at e; cases e
  | some c =>
    rw [hs] at e
    have e : c = some i := e
    subst e
    obtain ⟨i', e', le⟩ := A.hg.mon _ (mn b).toNat i hs (by have := mn_mono ab; omega) (by have := mn_26 b; omega)
    exact ⟨i', by rw [e']; rfl, le⟩
theorem firstI_inj {k k' : Str} {ks : List Str} {j : Nat} (h : firstI k ks = some j) (h' : firstI k' ks = some j) : k = k' := by
  have a := (firstI.spec h).1
  have b := (firstI.spec h').1
  rw [a] at b
  injection b
theorem set_getD {α : Type} {xs : List α} {i j : Nat} {y : α} : (xs.set i y)[j]? = if i = j ∧ i < xs.length then some y else xs[j]? := by
  rw [List.getElem?_set]
  by_cases e : i = j
  · subst e
    by_cases h : i < xs.length
    · rw [if_pos rfl, if_pos h, if_pos ⟨rfl, h⟩]
    · rw [if_pos rfl, if_neg h, if_neg (by omega), List.getElem?_eq_none (by omega)]
  · rw [if_neg e, if_neg (fun z => e z.1)]
theorem put_eq {B : Int} {X : Wd} {t : Tb} {k : Str} {o a : Int} {j : Nat} {r : List (List (Option Int))} {s : List (Option Int)} (A : At B X t k o j r s) : putT X t k o a = t.set j (r.set (o % X.n).toNat (lowR s a.toNat 27 o)) := by
  unfold putT
  rw [A.hf]
  show t.set j (((t[j]?).getD []).set _ (lowR ((((t[j]?).getD [])[_]?).getD []) _ _ _)) = _
  rw [A.ht]
  show t.set j (r.set _ (lowR ((r[_]?).getD []) _ _ _)) = _
  rw [A.hr]
  rfl
theorem TbG.put {B B' : Int} {X : Wd} {t : Tb} (h : TbG B X t) (hX : X.ok) {k : Str} (hk : k ∈ X.ks) {o a : Int} (hB : B ≤ B') (o0 : -20 ≤ o) (o1 : o ≤ B') : TbG B' X (putT X t k o a) := by
  obtain ⟨j, r, s, A⟩ := h.at hX hk o
  have n1 := hX.n1
  have q0 := Int.emod_nonneg o (show X.n ≠ 0 by omega)
  rw [put_eq A]
  have rm := List.mem_of_getElem? A.ht
  have key : ∀ (p : Nat) (s' : List (Option Int)), (r.set (o % X.n).toNat (lowR s a.toNat 27 o))[p]? = some s' → StG B' X.n (p : Int) s' := fun p s' e => by
    rw [set_getD] at e
    split at e
    · rename_i hp
      cases e
      rw [show (p : Int) = o % X.n by omega]
      exact (A.hg.up hB).low rfl o0 o1
    · exact (h.s r rm p s' e).up hB
  refine ⟨by rw [List.length_set]; exact h.l, fun r' hr' => ?_, fun r' hr' p s' e => ?_⟩
  · rcases List.mem_or_eq_of_mem_set hr' with z | rfl
    · exact h.r r' z
    · rw [List.length_set]; exact h.r r rm
  · rcases List.mem_or_eq_of_mem_set hr' with z | rfl
    · exact (h.s r' z p s' e).up hB
    · exact key p s' e
theorem put_cl {B : Int} {X : Wd} {t : Tb} (h : TbG B X t) (hX : X.ok) {k k' : Str} (hk : k ∈ X.ks) (hk' : k' ∈ X.ks) {o a p b : Int} (a0 : 0 ≤ a) (b0 : 0 ≤ b) : cl X (putT X t k o a) k' p b = if k' = k ∧ p % X.n = o % X.n ∧ a ≤ (mn b) then lowC (cl X t k' p b) o else cl X t k' p b := by
  obtain ⟨j, r, s, A⟩ := h.at hX hk o
  obtain ⟨j', r', s', A'⟩ := h.at hX hk' p
  have n1 := hX.n1
  have q0 := Int.emod_nonneg o (show X.n ≠ 0 by omega)
  have p0 := Int.emod_nonneg p (show X.n ≠ 0 by omega)
  have sl := A'.hg.l
  have jl := (List.getElem?_eq_some_iff.mp A.ht).1
  have rl := (List.getElem?_eq_some_iff.mp A.hr).1
  obtain ⟨c, hc⟩ : ∃ c, s'[(mn b).toNat]? = some c := ⟨_, List.getElem?_eq_getElem (by have := mn_26 b; omega)⟩
  have e1 : cl X t k' p b = c := by rw [A'.hc b, hc]; rfl
  rw [e1, put_eq A]
  by_cases ej : j = j'
  · subst ej
    have ek := firstI_inj A.hf A'.hf
    subst ek
    have er : r = r' := by
      have := A.ht.symm.trans A'.ht
      injection this
    subst er
    by_cases ep : p % X.n = o % X.n
    · have es : s = s' := by
        have e1 := A.hr
        have e2 := A'.hr
        rw [ep] at e2
        have := e1.symm.trans e2
        injection this
      subst es
      rw [cl_at A.hf (by rw [set_getD, if_pos ⟨rfl, jl⟩]) (by rw [set_getD, if_pos ⟨by rw [ep], rl⟩])]
      rw [lowR_get, hc]
      show (if a.toNat ≤ (mn b).toNat ∧ (mn b).toNat < 27 then lowC c o else c) = _
      by_cases ea : a ≤ (mn b)
      · rw [if_pos ⟨by omega, by have := mn_26 b; omega⟩, if_pos ⟨rfl, ep, ea⟩]
      · rw [if_neg (fun z => ea (by have := z.1; have := mn_0 b0; omega)), if_neg (fun z => ea z.2.2)]
    · rw [cl_at A.hf (by rw [set_getD, if_pos ⟨rfl, jl⟩]) (by rw [set_getD, if_neg (fun z => ep (by have := z.1; omega))]; exact A'.hr)]
      rw [hc, if_neg (fun z => ep z.2.1)]
      rfl
  · rw [cl_at A'.hf (by rw [set_getD, if_neg (fun z => ej z.1)]; exact A'.ht) A'.hr]
    rw [hc, if_neg (fun z => ej (by
      have h1 := A.hf
      have h2 := A'.hf
      rw [z.1] at h2
      rw [h1] at h2
      injection h2))]
    rfl
theorem put_sum {B : Int} {X : Wd} {t : Tb} (h : TbG B X t) (hX : X.ok) {k : Str} (hk : k ∈ X.ks) {o a : Int} (a0 : 0 ≤ a) (a1 : a ≤ 26) {f : Option Int → Nat} (hf : ∀ c, (∀ i, c = some i → -20 ≤ i ∧ i ≤ B) → f (lowC c o) ≤ f c) : smT f (putT X t k o a) ≤ smT f t ∧ (f (lowC (cl X t k o a) o) < f (cl X t k o a) → smT f (putT X t k o a) < smT f t) := by
  obtain ⟨j, r, s, A⟩ := h.at hX hk o
  rw [put_eq A]
  have e1 := sum_set (f := smR f) (y := r.set (o % X.n).toNat (lowR s a.toNat 27 o)) A.ht
  have e2 := sum_set (f := smS f) (y := lowR s a.toNat 27 o) A.hr
  obtain ⟨h1, h2⟩ := smS_low (f := f) (x := o) (s := s) (lo := a.toNat) fun c hc => hf c fun i e => by
    subst e
    exact ⟨A.hg.lo i hc, A.hg.hi i hc⟩
  have e1 : smT f (t.set j (r.set (o % X.n).toNat (lowR s a.toNat 27 o))) + smR f r = smT f t + smR f (r.set (o % X.n).toNat (lowR s a.toNat 27 o)) := e1
  have e2 : smR f (r.set (o % X.n).toNat (lowR s a.toNat 27 o)) + smS f s = smR f r + smS f (lowR s a.toNat 27 o) := e2
  refine ⟨by omega, fun hlt => ?_⟩
  have sl := A.hg.l
  obtain ⟨c, hc⟩ : ∃ c, s[a.toNat]? = some c := ⟨_, List.getElem?_eq_getElem (by omega)⟩
  have ec : cl X t k o a = c := by
    rw [A.hc a, mn_id a1, hc]
    rfl
  rw [ec] at hlt
  have := h2 a.toNat c hc (Nat.le_refl _) (by omega) hlt
  omega
/-! ### more and less -/
def Le (X : Wd) (t u : Tb) : Prop := ∀ k ∈ X.ks, ∀ p b j, 0 ≤ b → cl X u k p b = some j → ∃ i, cl X t k p b = some i ∧ i ≤ j
theorem Le.refl {X : Wd} {t : Tb} : Le X t t := fun k _ p b j _ e => ⟨j, e, Int.le_refl _⟩
theorem Le.trans {X : Wd} {t u v : Tb} (h : Le X t u) (g : Le X u v) : Le X t v := fun k hk p b j hb e => by
  obtain ⟨i, ei, li⟩ := g k hk p b j hb e
  obtain ⟨i', ei', li'⟩ := h k hk p b i hb ei
  exact ⟨i', ei', by omega⟩
theorem Le.has {X : Wd} {t u : Tb} (h : Le X t u) {k : Str} (hk : k ∈ X.ks) {o a : Int} (a0 : 0 ≤ a) (e : hasC X u k o a = true) : hasC X t k o a = true := by
  unfold hasC at e ⊢
  cases hu : cl X u k o a with
  | none => rw [hu] at e; cases e
  | some j =>
    rw [hu] at e
    obtain ⟨i, ei, li⟩ := h k hk o a j a0 hu
    rw [ei]
    have e := of_decide_eq_true (show decide (j ≤ o) = true from e)
    exact decide_eq_true (show i ≤ o by omega)
theorem put_le {B : Int} {X : Wd} {t : Tb} (h : TbG B X t) (hX : X.ok) {k : Str} (hk : k ∈ X.ks) {o a : Int} (a0 : 0 ≤ a) : Le X (putT X t k o a) t := fun k' hk' p b j hb e => by
  rw [put_cl h hX hk hk' a0 hb, e]
  split
  · exact ⟨_, rfl, by split <;> omega⟩
  · exact ⟨j, rfl, Int.le_refl _⟩
theorem put_has {B : Int} {X : Wd} {t : Tb} (h : TbG B X t) (hX : X.ok) {k : Str} (hk : k ∈ X.ks) {o a : Int} (a0 : 0 ≤ a) (a1 : a ≤ 26) : hasC X (putT X t k o a) k o a = true := by
  unfold hasC
  rw [put_cl h hX hk hk a0 a0, if_pos ⟨rfl, rfl, by rw [mn_id a1]; exact Int.le_refl _⟩]
  cases cl X t k o a with
  | none => exact decide_eq_true (Int.le_refl _)
  | some i => exact decide_eq_true (by show (if i > o then o else i) ≤ o; split <;> omega)
/-- what is put stays within what has it already -/
theorem put_within {B B' : Int} {X : Wd} {t u : Tb} (h : TbG B X t) (g : TbG B' X u) (hX : X.ok) {k : Str} (hk : k ∈ X.ks) {o a : Int} (a0 : 0 ≤ a) (le : Le X u t) (hu : hasC X u k o a = true) : Le X u (putT X t k o a) := fun k' hk' p b j hb e => by
  rw [put_cl h hX hk hk' a0 hb] at e
  split at e
  · rename_i hc
    obtain ⟨rfl, hp, hab⟩ := hc
    unfold hasC at hu
    cases ho : cl X u k' o a with
    | none => rw [ho] at hu; cases hu
    | some i =>
      rw [ho] at hu
      have hu := of_decide_eq_true (show decide (i ≤ o) = true from hu)
      obtain ⟨i2, e2, l2⟩ := g.mon hX hk' (b := b) a0 (by have := mn_le b; omega) ho
      rw [cl_mod (p := p) (q := o) hp]
      cases ht : cl X t k' p b with
      | none =>
        rw [ht] at e
        cases e
        exact ⟨i2, e2, by omega⟩
      | some m =>
        rw [ht] at e
        have e : some (if m > o then o else m) = some j := e
        injection e with e
        obtain ⟨i3, e3, l3⟩ := le k' hk' p b m hb ht
        rw [cl_mod (p := p) (q := o) hp, e2] at e3
        cases e3
        refine ⟨i2, e2, ?_⟩
        rw [← e]
        split <;> omega
  · exact le k' hk' p b j hb e
end Dl
namespace Dl
open PySem PySem.Spec PyProof.Rows L2 Rt
/-! ### put, empty, choices -/
theorem cut_to {α : Type} {xs : List α} {m : Nat} (h : m ≤ xs.length) : cutD xs none (some (m : Int)) = xs.take m := by
  unfold cutD
  rw [HT.sIx_none, HT.sIx_nat, List.drop_zero, Nat.sub_zero, Nat.min_eq_left h]
theorem cut_fr {α : Type} {xs : List α} {m : Nat} (h : m ≤ xs.length) : cutD xs (some (m : Int)) none = xs.drop m := by
  unfold cutD
  rw [HT.sIx_none, HT.sIx_nat, Nat.min_eq_left h, List.take_of_length_le (by rw [List.length_drop]; omega)]
theorem ev_sl {f : EF} {lo hi : Rho → Option (Option Int)} {ρ : Rho} {d r : D} {l h : Option Int} (h1 : f ρ = some d) (h2 : lo ρ = some l) (h3 : hi ρ = some h) (h4 : slD d l h = some r) : eSl f lo hi ρ = some r := by
  unfold eSl
  rw [h1]
  show (lo ρ).bind _ = _
  rw [h2]
  show (hi ρ).bind _ = _
  rw [h3]
  exact h4
theorem sl_to {xs : List D} {j : Nat} (h : j ≤ xs.length) : slD (.tuple xs) none (some (j : Int)) = some (.tuple (xs.take j)) := by
  show some (PyData.tuple (cutD xs none (some (j : Int)))) = _
  rw [cut_to h]
theorem sl_fr1 {xs : List D} {j : Nat} (h : j + 1 ≤ xs.length) : slD (.tuple xs) (some ((j : Int) + 1)) none = some (.tuple (xs.drop (j + 1))) := by
  rw [show ((j : Int) + 1) = ((j + 1 : Nat) : Int) by omega]
  show some (PyData.tuple (cutD xs (some ((j + 1 : Nat) : Int)) none)) = _
  rw [cut_fr h]
theorem ev_swap {α : Type} {en : α → D} {xs : List α} {j : Nat} {y : α} {fT fJ fY : EF} {ρ : Rho} (hl : xs.length ≤ 1000) (hj : j < xs.length) (eT : fT ρ = some (.tuple (xs.map en))) (eJ : fJ ρ = some (.int (j : Int))) (eY : fY ρ = some (en y)) : e2 addD (e2 addD (eSl fT pNone (pSome fJ)) (eTup (aCons fY aNil))) (eSl fT (pSome (e2 addD fJ (eC (.int 1)))) pNone) ρ = some (.tuple ((xs.set j y).map en)) := by
  have e : (xs.set j y).map en = ((xs.map en).take j ++ [en y]) ++ (xs.map en).drop (j + 1) := by
    rw [List.set_eq_take_append_cons_drop, if_pos hj, List.map_append, List.map_take, List.map_cons, List.map_drop, List.append_assoc]
    rfl
  have ml : (xs.map en).length = xs.length := List.length_map ..
  rw [e]
  refine ev_e2 (a := .tuple ((xs.map en).take j ++ [en y])) (b := .tuple ((xs.map en).drop (j + 1))) (ev_e2 (a := .tuple ((xs.map en).take j)) (b := .tuple [en y]) (ev_sl (d := .tuple (xs.map en)) (h := some (j : Int)) eT rfl ?_ (sl_to (by omega))) (ev_tupX (ev_cons eY rfl) (by simp)) (add_tup (sz (by rw [List.length_take]; simp; omega)))) (ev_sl (d := .tuple (xs.map en)) (l := some ((j : Int) + 1)) eT ?_ rfl (sl_fr1 (by omega))) (add_tup (sz (by rw [List.length_append, List.length_take, List.length_drop]; simp; omega)))
  · unfold pSome
    rw [eJ]
    rfl
  · unfold pSome
    rw [ev_e2 (f1 := fJ) (a := .int (j : Int)) (b := .int 1) eJ rfl rfl]
    rfl
theorem ev_par2 {i j : Nat} {f : Rho → Option (List D)} {g : Rho → Option Out} {ρ : Rho} {a b : D} {ρ' : Rho} (h : f ρ = some [a, b]) (hρ : (ρ.set i (some (.dat a))).set j (some (.dat b)) = ρ') : sSeq (sPar i j f) g ρ = g ρ' := by
  subst hρ
  unfold sSeq sPar
  rw [h]
  rfl
theorem ev_own1 {i : Nat} {f : EF} {g : Rho → Option Out} {ρ : Rho} {ds : List D} {ρ' : Rho} (h : f ρ = some (.list ds)) (hi : i < ρ.length) (hρ : ρ.set i (some (.own ds)) = ρ') : sSeq (sOwn i f) g ρ = g ρ' := by
  subst hρ
  unfold sSeq sOwn
  rw [h]
  show ((if i < ρ.length then some (Out.nx (ρ.set i (some (.own ds)))) else none).bind _) = _
  rw [if_pos hi]
  rfl
theorem mulY_1 {x : D} {k : Int} (k1 : 1 ≤ k) (k2 : k ≤ 1000) : mulY (.tuple [x]) (.int k) = some (.tuple (List.replicate k.toNat x)) := by
  have e : (List.replicate k.toNat [x]).flatten = List.replicate k.toNat x := by
    generalize k.toNat = n
    induction n with
    | zero => rfl
    | succ n ih => rw [List.replicate_succ, List.flatten_cons, ih]; rfl
  show (if [x].isEmpty = true ∧ 0 ≤ k ∧ k ≤ 1000 then some (PyData.tuple []) else if k = 0 then some (PyData.tuple []) else mulX (.tuple [x]) (.int k)) = _
  rw [if_neg (fun z => by cases z.1), if_neg (by omega)]
  show (if [x] ≠ [] ∧ 1 ≤ k ∧ k ≤ 1000 ∧ [x].length ≤ 1000 then some (PyData.tuple (List.replicate k.toNat [x]).flatten) else none) = _
  rw [if_pos ⟨by simp, k1, k2, by simp⟩, e]
def SPut : Sem (Wd × Tb × Str × Int × Int) where
  enc := fun (X, t, k, o, a) => [X.d, tbD t, .tuple [.str k, .int o, .int a]]
  ok := fun (X, t, k, o, a) => X.ok ∧ tbOk X t ∧ k ∈ X.ks ∧ 0 ≤ a ∧ a ≤ 26
  out := fun (X, t, k, o, a) => tbD (putT X t k o a)
  fn := fun {x y} _ _ e => by
    obtain ⟨X, t, k, o, a⟩ := x
    obtain ⟨X', t', k', o', a'⟩ := y
    injection e with e1 e
    injection e with e2 e
    injection e with e3 e
    cases Wd.inj e1
    cases tbD.inj e2
    cases e3
    rfl
def empT (X : Wd) : Tb := List.replicate X.ks.length (List.replicate X.n.toNat (List.replicate 27 none))
def SEmp : Sem Wd where
  enc := fun X => [X.d]
  ok := fun X => X.ok
  out := fun X => tbD (empT X)
  fn := fun {x y} _ _ e => by
    injection e with e1 e
    cases Wd.inj e1
    rfl
theorem emp_g {B : Int} {X : Wd} : TbG B X (empT X) := by
  refine ⟨List.length_replicate, fun r hr => ?_, fun r hr p s e => ?_⟩
  · rw [(List.mem_replicate.mp hr).2, List.length_replicate]
  · rw [(List.mem_replicate.mp hr).2, List.getElem?_replicate] at e
    split at e
    · cases e; exact nones_g
    · cases e
section
variable {P : Program} {w : World} {K : PySem.W.Frag} {mg : Str → Option Value} {base : Heap}
theorem ok_put {f : Addr} {fd : FuncData} (F : Fun K "_law_put" "_law_put" s_law_put f fd) (m_list : mg "list" = none) (m_range : mg "range" = none) (m_tuple : mg "tuple" = none) : FnOk P w K mg base CX0 1 f fd ["_law_world_here", "_law_sheet", "_law_thing"] (spD 3 SPut.f) := by
  refine okFn F sc_law_put rfl fun cdv A outer s H E hr => ⟨_, (dSs_cons (dS_asg (K := K) (p := (.tp (.cons (.nm 3) (.cons (.nm 4) (.cons (.nm 5) .nil))))) (ps_asg (dE_var (μ := true) (pv 2)) (pg_tup (by rfl) (pgs_cons (pg_name (i := 3) sc_law_put.nd rfl (.inl rfl)) (pgs_cons (pg_name (i := 4) sc_law_put.nd rfl (.inl rfl)) (pgs_cons (pg_name (i := 5) sc_law_put.nd rfl (.inl rfl)) pgs_nil))))))
  (dSs_cons (dS_par (ps_par (i := 6) (j := 7) (by rfl) sc_law_put.nd rfl rfl (by decide) rfl rfl (dA_cons (dE_idx (dE_ix (dE_var (μ := true) (pv 0)) (dE_c (μ := true) pe_int)) (dE_var (μ := true) (pv 3))) (dA_cons (dE_op o_mod (dE_var (μ := true) (pv 4)) (dE_ix (dE_var (μ := true) (pv 0)) (dE_c (μ := true) pe_int))) dA_nil)) (by rfl)))
  (dSs_cons (dS_own (ps_set (i := 8) sc_law_put.nd rfl (.inl rfl) (oE_listC (by rfl) m_list (by decide +kernel) (dE_ix (dE_ix (dE_var (μ := true) (pv 1)) (dE_var (μ := true) (pv 6))) (dE_var (μ := true) (pv 7))))))
  (dSs_cons (dS_for (K := K) (p := (.nm 9)) (ps_for PassesOwn.never rfl (dI_ran2 (by rfl) m_range (dA_cons (dE_var (μ := true) (pv 5)) (dA_cons (dE_c (μ := true) pe_int) (dA_nil (μ := true))))) (pg_name (i := 9) sc_law_put.nd rfl (.inl rfl))
    (dSs_one (dS_if (PW.pt (dW_or (dT_cmp o_is (dE_ix (dE_own (pv 8)) (dE_var (μ := false) (pv 9))) (dE_c (μ := false) pe_non) (nomark _)) (dW_or1 (dT_cmp o_gt (dE_ix (dE_own (pv 8)) (dE_var (μ := false) (pv 9))) (dE_var (μ := false) (pv 4)) (nomark _)))))
    (dSs_one (dS_put (ps_asg (dE_var (μ := true) (pv 4)) (pg_sub (pv 8) (dE_var (μ := true) (pv 9)) set_listL))))
    dSs_nil))))
  (dSs_cons (dS_asg (K := K) (p := .nm 10) (ps_set (i := 10) sc_law_put.nd rfl (.inl rfl) (dE_str (dE_op o_add (dE_op o_add (dE_sl (dE_ix (dE_var (μ := false) (pv 1)) (dE_var (μ := false) (pv 6))) dO_none (dO_some (dE_var (μ := false) (pv 7)))) (dE_tup (dA_cons (dE_callTy c_tuple (by rfl) m_tuple (by decide +kernel) (dA_cons (dE_own (pv 8)) (dA_nil (μ := false)))) (dA_nil (μ := false))))) (dE_sl (dE_ix (dE_var (μ := false) (pv 1)) (dE_var (μ := false) (pv 6))) (dO_some (dE_op o_add (dE_var (μ := false) (pv 7)) (dE_c (μ := false) pe_int))) dO_none)))))
  (dSs_one (dS_ret (ps_ret (dE_op o_add (dE_op o_add (dE_sl (dE_var (μ := true) (pv 1)) dO_none (dO_some (dE_var (μ := true) (pv 6)))) (dE_tup (dA_cons (dE_var (μ := true) (pv 10)) (dA_nil (μ := true))))) (dE_sl (dE_var (μ := true) (pv 1)) (dO_some (dE_op o_add (dE_var (μ := true) (pv 6)) (dE_c (μ := true) pe_int))) dO_none)))))))))), fun ds d l e => ?_⟩
  obtain ⟨⟨X, t, k, o, a⟩, ⟨hX, ht, hk, a0, a1⟩, rfl, rfl⟩ := Sem.get e
  refine ⟨.rt (tbD (putT X t k o a)), ?_, rfl⟩
  obtain ⟨j, hj, jl⟩ := firstI.has hk
  have n1 := hX.n1
  have n6 := hX.n6
  have k4 := hX.k4
  have q0 := Int.emod_nonneg o (show X.n ≠ 0 by omega)
  have q1 := Int.emod_lt_of_pos o (show 0 < X.n by omega)
  have tl := ht.l
  obtain ⟨r, er⟩ : ∃ r, t[j]? = some r := ⟨_, List.getElem?_eq_getElem (by omega)⟩
  have rm := List.mem_of_getElem? er
  have rl := ht.r r rm
  obtain ⟨st, es⟩ : ∃ st, r[(o % X.n).toNat]? = some st := ⟨_, List.getElem?_eq_getElem (by omega)⟩
  have sl := ht.s r rm st (List.mem_of_getElem? es)
  have ep : putT X t k o a = t.set j (r.set (o % X.n).toNat (lowR st a.toNat 27 o)) := by
    unfold putT
    rw [hj]
    show t.set j (((t[j]?).getD []).set _ (lowR ((((t[j]?).getD [])[_]?).getD []) _ _ _)) = _
    rw [er]
    show t.set j (r.set _ (lowR ((r[_]?).getD []) _ _ _)) = _
    rw [es]
    rfl
  obtain ⟨m, hm⟩ : ∃ m : Nat, o % X.n = m := ⟨(o % X.n).toNat, by omega⟩
  obtain ⟨b, rfl⟩ : ∃ b : Nat, a = b := ⟨a.toNat, by omega⟩
  rw [ep]
  rw [hm] at es ⊢
  simp only [Int.toNat_natCast] at es ⊢
  let R : Option LV → Option LV → Option LV → Option LV → Option LV → Rho := fun x6 x7 x8 x9 x10 => [some (.dat X.d), some (.dat (tbD t)), some (.dat (.tuple [.str k, .int o, .int (b : Int)])), some (.dat (.str k)), some (.dat (.int o)), some (.dat (.int (b : Int))), x6, x7, x8, x9, x10]
  refine (ev_asg (d := .tuple [.str k, .int o, .int (b : Int)]) (ρ' := R none none none none none) rfl rfl).trans ?_
  refine (ev_par2 (a := .int (j : Int)) (b := .int (m : Int)) (ρ' := R (some (.dat (.int (j : Int)))) (some (.dat (.int (m : Int)))) none none none) (ev_cons (ev_e2 (a := .tuple (X.ks.map .str)) (b := .str k) rfl rfl ?_) (ev_cons (ev_e2 (a := .int o) (b := .int X.n) rfl rfl (by rw [← hm]; exact if_pos (by omega))) rfl)) rfl).trans ?_
  · show (strsD (X.ks.map .str)).bind _ = _
    rw [strsD.map]
    show (firstI k X.ks).map _ = _
    rw [hj]
    rfl
  refine (ev_own1 (ds := st.map celD) (ρ' := R (some (.dat (.int (j : Int)))) (some (.dat (.int (m : Int)))) (some (.own (st.map celD))) none none) ?_ (by show 8 < 11; decide) rfl).trans ?_
  · have e1 : e2 ixD (e2 ixD (eVar 1) (eVar 6)) (eVar 7) (R (some (.dat (.int (j : Int)))) (some (.dat (.int (m : Int)))) none none none) = some (stD st) := ev_e2 (a := rwD r) (b := .int (m : Int)) (ev_e2 (a := tbD t) (b := .int (j : Int)) rfl rfl (at_map er)) rfl (at_map es)
    exact (congrArg (fun o : Option D => o.bind lisX) e1).trans rfl
  let x9 : Nat → Option LV := fun i => if i = b then none else some (.dat (.int ((i : Int) - 1)))
  let S : Nat → Rho := fun i => R (some (.dat (.int (j : Int)))) (some (.dat (.int (m : Int)))) (some (.own ((lowR st b i o).map celD))) (x9 i) none
  have r2 := ran2_ok (i := (b : Int)) (j := 27) (by omega) (by omega) (by omega) (by omega) (by omega)
  have e27 : ((27 : Int) - (b : Int)).toNat = 27 - b := by omega
  rw [e27] at r2
  have lp := forG_rg (p := .nm 9) (body := sIf (oOr (oB (e2 isND (e2 ixD (eOwn 8) (eVar 9)) (eC .none))) (oB (e2 gtD (e2 ixD (eOwn 8) (eVar 9)) (eVar 4)))) (sPut 8 (eVar 4) (eVar 9)) sNil) 0 S (27 - b) b fun i h1 h2 => by
    obtain ⟨c, hc⟩ : ∃ c, st[i]? = some c := ⟨_, List.getElem?_eq_getElem (by omega)⟩
    obtain ⟨st1, st2⟩ := lowR_step (x := o) hc h1
    rw [Int.zero_add]
    refine ⟨R (some (.dat (.int (j : Int)))) (some (.dat (.int (m : Int)))) (some (.own ((lowR st b i o).map celD))) (some (.dat (.int (i : Int)))) none, rfl, ?_⟩
    have s1 : S (i + 1) = R (some (.dat (.int (j : Int)))) (some (.dat (.int (m : Int)))) (some (.own (((lowR st b i o).set i (lowC c o)).map celD))) (some (.dat (.int (i : Int)))) none := by
      show R _ _ (some (.own ((lowR st b (i + 1) o).map celD))) (if i + 1 = b then none else some (.dat (.int (((i + 1 : Nat) : Int) - 1)))) _ = _
      rw [st1, if_neg (by omega), show (((i + 1 : Nat) : Int) - 1) = i by omega]
    rw [s1]
    have ix : e2 ixD (eOwn 8) (eVar 9) (R (some (.dat (.int (j : Int)))) (some (.dat (.int (m : Int)))) (some (.own ((lowR st b i o).map celD))) (some (.dat (.int (i : Int)))) none) = some (celD c) := ev_e2 (a := .list ((lowR st b i o).map celD)) (b := .int (i : Int)) rfl rfl (at_map st2)
    have put : sPut 8 (eVar 4) (eVar 9) (R (some (.dat (.int (j : Int)))) (some (.dat (.int (m : Int)))) (some (.own ((lowR st b i o).map celD))) (some (.dat (.int (i : Int)))) none) = some (.nx (R (some (.dat (.int (j : Int)))) (some (.dat (.int (m : Int)))) (some (.own (((lowR st b i o).set i (some o)).map celD))) (some (.dat (.int (i : Int)))) none)) := by
      have e1 : sPut 8 (eVar 4) (eVar 9) (R (some (.dat (.int (j : Int)))) (some (.dat (.int (m : Int)))) (some (.own ((lowR st b i o).map celD))) (some (.dat (.int (i : Int)))) none) = (ixN ((lowR st b i o).map celD).length (i : Int)).map fun q => .nx (R (some (.dat (.int (j : Int)))) (some (.dat (.int (m : Int)))) (some (.own (((lowR st b i o).map celD).set q (.int o)))) (some (.dat (.int (i : Int)))) none) := rfl
      rw [e1, ixN_in (by omega) (by rw [List.length_map, lowR_len]; omega), List.map_set]
      rfl
    cases c with
    | none =>
      refine (congrArg (fun o : Option Bool => o.bind fun b => if b = true then sPut 8 (eVar 4) (eVar 9) _ else sNil _) ((ev_oOr (b := true) (ev_oB (ev_e2 (a := .none) (b := .none) ix rfl rfl))).trans rfl)).trans ?_
      exact put
    | some v =>
      have hif : oOr (oB (e2 isND (e2 ixD (eOwn 8) (eVar 9)) (eC .none))) (oB (e2 gtD (e2 ixD (eOwn 8) (eVar 9)) (eVar 4))) (R (some (.dat (.int (j : Int)))) (some (.dat (.int (m : Int)))) (some (.own ((lowR st b i o).map celD))) (some (.dat (.int (i : Int)))) none) = some (decide (v > o)) := (ev_oOr (b := false) (ev_oB (ev_e2 (a := .int v) (b := .none) ix rfl rfl))).trans (ev_oB (ev_e2 (a := .int v) (b := .int o) ix rfl rfl))
      unfold sIf
      rw [hif]
      show (if decide (v > o) = true then _ else _) = _
      by_cases hv : v > o
      · rw [if_pos (decide_eq_true hv), put]
        show _ = some (Out.nx (R _ _ (some (.own (((lowR st b i o).set i (some (if v > o then o else v))).map celD))) _ _))
        rw [if_pos hv]
      · rw [if_neg (by simpa using hv)]
        have ek : (lowR st b i o).set i (lowC (some v) o) = lowR st b i o := by
          show (lowR st b i o).set i (some (if v > o then o else v)) = _
          rw [if_neg hv]
          apply List.ext_getElem?
          intro q
          rw [List.getElem?_set]
          by_cases e : i = q
          · subst e
            rw [if_pos rfl, if_pos (by rw [lowR_len]; omega), st2]
          · rw [if_neg e]
        rw [ek]
        rfl
  have S0 : S b = R (some (.dat (.int (j : Int)))) (some (.dat (.int (m : Int)))) (some (.own (st.map celD))) none none := by
    show R _ _ (some (.own ((lowR st b b o).map celD))) (if b = b then none else _) none = _
    rw [lowR_none, if_pos rfl]
  have S1 : S (b + (27 - b)) = R (some (.dat (.int (j : Int)))) (some (.dat (.int (m : Int)))) (some (.own ((lowR st b 27 o).map celD))) (x9 27) none := by
    rw [show b + (27 - b) = 27 by omega]
  rw [S0, S1, Int.zero_add] at lp
  refine (ev_seq (ev_forS (ev_itG (ds := [.int (b : Int), .int 27]) rfl r2) lp)).trans ?_
  have nst : ∀ q : List (Option Int), nl (stD q) = true := fun q => nlAll_of fun d hd => by
    obtain ⟨c, _, rfl⟩ := List.mem_map.mp hd
    cases c <;> rfl
  have nrw : ∀ q : List (List (Option Int)), nl (rwD q) = true := fun q => nlAll_of fun d hd => by
    obtain ⟨c, _, rfl⟩ := List.mem_map.mp hd
    exact nst c
  refine (ev_asg (d := rwD (r.set m (lowR st b 27 o))) (ρ' := R (some (.dat (.int (j : Int)))) (some (.dat (.int (m : Int)))) (some (.own ((lowR st b 27 o).map celD))) (x9 27) (some (.dat (rwD (r.set m (lowR st b 27 o)))))) ?_ rfl).trans ?_
  · unfold eStr
    rw [ev_swap (en := stD) (xs := r) (j := m) (y := lowR st b 27 o) (fT := e2 ixD (eVar 1) (eVar 6)) (fJ := eVar 7) (fY := eCall tupD (aCons (eOwn 8) aNil)) (by omega) (by omega) (ev_e2 (a := tbD t) (b := .int (j : Int)) rfl rfl (at_map er)) rfl rfl]
    exact if_pos (nrw _)
  · exact ev_ret (ev_swap (en := rwD) (xs := t) (j := j) (y := r.set m (lowR st b 27 o)) (by omega) (by omega) rfl rfl rfl)
theorem ok_emp {f : Addr} {fd : FuncData} (F : Fun K "_law_empty" "_law_empty" s_law_empty f fd) (m_len : mg "len" = none) : FnOk P w K mg base CX0 1 f fd ["_law_world_here"] (spD 1 SEmp.f) := by
  refine okFn F sc_law_empty rfl fun cdv A outer s H E hr => ⟨_, (dSs_one (dS_ret (ps_ret (dE_op o_mulY (dE_tup (dA_cons (dE_op o_mulY (dE_tup (dA_cons (dE_op o_mulY (dE_tup (dA_cons (dE_c (μ := true) pe_non) (dA_nil (μ := true)))) (dE_c (μ := true) pe_int)) (dA_nil (μ := true)))) (dE_ix (dE_var (μ := true) (pv 0)) (dE_c (μ := true) pe_int))) (dA_nil (μ := true)))) (dE_callB c_len (by rfl) m_len (by decide +kernel) (dA_cons (dE_ix (dE_var (μ := true) (pv 0)) (dE_c (μ := true) pe_int)) (dA_nil (μ := true)))))))), fun ds d l e => ?_⟩
  obtain ⟨X, hX, rfl, rfl⟩ := Sem.get e
  have hX : X.ok := hX
  have n1 := hX.n1
  have n6 := hX.n6
  have k1 := hX.k1
  have k4 := hX.k4
  refine ⟨.rt (tbD (empT X)), ev_ret ?_, rfl⟩
  have ee : tbD (empT X) = .tuple (List.replicate (X.ks.length : Int).toNat (.tuple (List.replicate X.n.toNat (.tuple (List.replicate (27 : Int).toNat .none))))) := by
    unfold tbD empT
    rw [List.map_replicate]
    unfold rwD
    rw [List.map_replicate]
    unfold stD
    rw [List.map_replicate]
    rfl
  rw [ee]
  refine ev_e2 (a := .tuple [.tuple (List.replicate X.n.toNat (.tuple (List.replicate (27 : Int).toNat .none)))]) (b := .int (X.ks.length : Int)) (ev_tupX (ev_cons (ev_e2 (a := .tuple [.tuple (List.replicate (27 : Int).toNat .none)]) (b := .int X.n) (ev_tupX (ev_cons (ev_e2 (a := .tuple [.none]) (b := .int 27) rfl rfl (mulY_1 (by decide) (by decide))) rfl) (by simp)) rfl (mulY_1 (by omega) (by omega))) rfl) (by simp)) ?_ (mulY_1 (by omega) (by omega))
  have : (X.ks.map PyData.str).length = X.ks.length := List.length_map ..
  rw [← this]
  rfl
end
end Dl
namespace Dl
open PySem PySem.Spec PyProof.Rows L2 Rt
/-! ### the choices of a way -/
theorem forG_inv {α : Type} {p : Pat} {body : Rho → Option Out} {e : α → D} (I : List α → Rho → Prop) (hs : ∀ x xs ρ, I (x :: xs) ρ → ∃ ρ1 ρ2, bindP p (e x) ρ = some ρ1 ∧ body ρ1 = some (.nx ρ2) ∧ I xs ρ2) : ∀ (xs : List α) (ρ : Rho), I xs ρ → ∃ ρ', forGo p body (xs.map e) ρ = some (.nx ρ') ∧ I [] ρ'
  | [], ρ, h => ⟨ρ, rfl, h⟩
  | x :: xs, ρ, h => by
    obtain ⟨ρ1, ρ2, e1, e2, i2⟩ := hs x xs ρ h
    obtain ⟨ρ', e3, i3⟩ := forG_inv I hs xs ρ2 i2
    exact ⟨ρ', (ev_forC e1 e2).trans e3, i3⟩
def win (q : Pt) : List Int := (List.range (q.g + 1 - q.l).toNat).map fun i : Nat => q.l + (i : Int)
def stepC (fs : List (List Int)) (q : Pt) : List (List Int) := fs.flatMap fun f => (win q).map fun a => f ++ [a]
def chs (ps : List Pt) : List (List Int) := ps.foldl stepC [[]]
def InW : List Int → List Pt → Prop
  | [], [] => True
  | a :: as, q :: ps => (q.l ≤ a ∧ a ≤ q.g) ∧ InW as ps
  | _, _ => False
theorem win_mem {q : Pt} {a : Int} : a ∈ win q ↔ q.l ≤ a ∧ a ≤ q.g := by
  constructor
  · intro h
    obtain ⟨i, hi, rfl⟩ := List.mem_map.mp h
    have := List.mem_range.mp hi
    omega
  · intro h
    exact List.mem_map.mpr ⟨(a - q.l).toNat, List.mem_range.mpr (by omega), by omega⟩
theorem chs_go : ∀ (ps : List Pt) (fs : List (List Int)) (as : List Int), as ∈ ps.foldl stepC fs ↔ ∃ f ∈ fs, ∃ bs, as = f ++ bs ∧ InW bs ps
  | [], fs, as => by
    constructor
    · intro h
      exact ⟨as, h, [], by simp, trivial⟩
    · rintro ⟨f, hf, bs, rfl, hb⟩
      cases bs with
      | nil => rw [List.append_nil]; exact hf
      | cons b bs => exact hb.elim
  | q :: ps, fs, as => by
    rw [List.foldl_cons, chs_go ps]
    constructor
    · rintro ⟨f, hf, bs, rfl, hb⟩
      obtain ⟨g, hg, hm⟩ := List.mem_flatMap.mp hf
      obtain ⟨a, ha, rfl⟩ := List.mem_map.mp hm
      exact ⟨g, hg, a :: bs, by simp, win_mem.mp ha, hb⟩
    · rintro ⟨f, hf, bs, rfl, hb⟩
      cases bs with
      | nil => exact hb.elim
      | cons b bs => exact ⟨f ++ [b], List.mem_flatMap.mpr ⟨f, hf, List.mem_map.mpr ⟨b, win_mem.mpr hb.1, rfl⟩⟩, bs, by simp, hb.2⟩
theorem chs_mem {ps : List Pt} {as : List Int} : as ∈ chs ps ↔ InW as ps := by
  unfold chs
  rw [chs_go]
  constructor
  · rintro ⟨f, hf, bs, rfl, hb⟩
    rw [List.mem_singleton.mp hf]
    exact hb
  · intro h
    exact ⟨[], by simp, as, rfl, h⟩
theorem InW.len : ∀ {as : List Int} {ps : List Pt}, InW as ps → as.length = ps.length
  | [], [], _ => rfl
  | _ :: _, _ :: _, h => congrArg (· + 1) (InW.len h.2)
  | [], _ :: _, h => h.elim
  | _ :: _, [], h => h.elim
theorem InW.bd : ∀ {as : List Int} {ps : List Pt} {ks : List Str}, InW as ps → (∀ p ∈ ps, p.ok ks) → ∀ a ∈ as, 0 ≤ a ∧ a ≤ 20
  | [], [], _, _, _, a, h => nomatch h
  | b :: as, q :: ps, ks, h, hp, a, ha => by
    rcases List.mem_cons.mp ha with rfl | ha
    · have o := hp q (by simp)
      have := o.l0
      have := o.g1
      have := h.1
      omega
    · exact InW.bd h.2 (fun p hp' => hp p (by simp [hp'])) a ha
  | [], _ :: _, _, h, _, _, _ => h.elim
  | _ :: _, [], _, h, _, _, _ => h.elim
def agD (as : List Int) : D := .tuple (as.map .int)
theorem agD.inj {x y : List Int} (h : agD x = agD y) : x = y := tup_inj int_i h
theorem win_len (q : Pt) : (win q).length = (q.g + 1 - q.l).toNat := by
  unfold win
  rw [List.length_map, List.length_range]
theorem stepC_len {q : Pt} : ∀ (fs : List (List Int)), (stepC fs q).length = fs.length * (q.g + 1 - q.l).toNat
  | [] => by simp [stepC]
  | f :: fs => by
    have := stepC_len (q := q) fs
    unfold stepC at this ⊢
    rw [List.flatMap_cons, List.length_append, this, List.length_map, win_len, List.length_cons, Nat.add_mul, Nat.one_mul, Nat.add_comm]
def SChs : Sem (Int × List Str × Wy) where
  enc := fun (_, _, y) => [y.d]
  ok := fun (n, ks, y) => y.ok n ks
  out := fun (_, _, y) => .list ((chs y.ps).map agD)
  fn := fun {a b} _ _ e => by
    obtain ⟨n, ks, y⟩ := a
    obtain ⟨n', ks', y'⟩ := b
    injection e with e1 e
    cases Wy.inj e1
    rfl
section
variable {P : Program} {w : World} {K : PySem.W.Frag} {mg : Str → Option Value} {base : Heap}
theorem ok_cho {f : Addr} {fd : FuncData} (F : Fun K "_law_choices" "_law_choices" s_law_choices f fd) (m_range : mg "range" = none) : FnOk P w K mg base CX0 1 f fd ["_law_way_here"] (spD 1 SChs.f) := by
  refine okFn F sc_law_choices rfl fun cdv A outer s H E hr => ⟨_, (dSs_cons (dS_asg (K := K) (p := .nm 1) (ps_set (i := 1) sc_law_choices.nd rfl (.inl rfl) (dE_lst (dA_cons (dE_tup (dA_nil (μ := true))) (dA_nil (μ := true))))))
  (dSs_cons (dS_for (K := K) (p := (.tp (.cons (.nm 2) (.cons (.nm 3) (.cons (.nm 4) .nil))))) (ps_for PassesOwn.never rfl (dI_seq (dE_ix (dE_var (μ := true) (pv 0)) (dE_c (μ := true) pe_int))) (pg_tup (by rfl) (pgs_cons (pg_name (i := 2) sc_law_choices.nd rfl (.inl rfl)) (pgs_cons (pg_name (i := 3) sc_law_choices.nd rfl (.inl rfl)) (pgs_cons (pg_name (i := 4) sc_law_choices.nd rfl (.inl rfl)) pgs_nil))))
    (dSs_cons (dS_asg (K := K) (p := .nm 5) (ps_set (i := 5) sc_law_choices.nd rfl (.inl rfl) (dE_lst (dA_nil (μ := true)))))
  (dSs_cons (dS_for (K := K) (p := (.nm 6)) (ps_for PassesOwn.never rfl (dI_seq (dE_var (μ := true) (pv 1))) (pg_name (i := 6) sc_law_choices.nd rfl (.inr rfl))
    (dSs_one (dS_asg (K := K) (p := .nm 5) (ps_set (i := 5) sc_law_choices.nd rfl (.inl rfl) (dE_op o_add (dE_var (μ := true) (pv 5)) (dE_lc (K := K) (p := (.nm 7)) (pe_lc (own := [("_law_age", 7)]) (g := gP K (.nm 7)) rfl sc_law_choices.nd (dI_ran2 (by rfl) m_range (dA_cons (dE_var (μ := true) (pv 3)) (dA_cons (dE_op o_add (dE_var (μ := true) (pv 4)) (dE_c (μ := true) pe_int)) (dA_nil (μ := true))))) (blkOk_by (own := [("_law_age", 7)]) (N := ["_law_way_here", "_law_found", "_law_kind", "_law_least", "_law_high", "_law_longer", "_law_one", "_law_age"]) (sc := defScope s_law_choices) (by decide +kernel)) (fun _ _ _ _ _ => (pg_name (i := 7) sc_law_choices.nd rfl (.inl rfl))) (fun _ _ _ _ _ => dTs_nil) (fun _ _ _ _ _ => (dE_op o_add (dE_var (μ := true) (pv 6)) (dE_tup (dA_cons (dE_var (μ := true) (pv 7)) (dA_nil (μ := true))))))))))))))
  (dSs_one (dS_asg (K := K) (p := .nm 1) (ps_set (i := 1) sc_law_choices.nd rfl (.inl rfl) (dE_var (μ := true) (pv 5)))))))))
  (dSs_one (dS_ret (ps_ret (dE_var (μ := true) (pv 1))))))), fun ds d l e => ?_⟩
  obtain ⟨⟨n, ks, y⟩, hy, rfl, rfl⟩ := Sem.get e
  have hy : y.ok n ks := hy
  refine ⟨.rt (.list ((chs y.ps).map agD)), ?_, rfl⟩
  let R : Option LV → Option LV → Option LV → Option LV → Option LV → Option LV → Rho := fun x1 x2 x3 x4 x5 x6 => [some (.dat y.d), x1, x2, x3, x4, x5, x6, none]
  refine (ev_asg (d := .list [.tuple []]) (ρ' := R (some (.dat (.list [.tuple []]))) none none none none none) rfl rfl).trans ?_
  have p3 := hy.p3
  obtain ⟨ρ', e1, i1⟩ := forG_inv (p := .tp (.cons (.nm 2) (.cons (.nm 3) (.cons (.nm 4) .nil)))) (e := Pt.d) (body := sSeq (sAsg (.nm 5) (eLst aNil)) (sSeq (sFor (itSeq (eVar 1)) (.nm 6) (sAsg (.nm 5) (e2 addD (eVar 5) (eLc true [7] (itG ran2D (aCons (eVar 3) (aCons (e2 addD (eVar 4) (eC (.int 1))) aNil))) (.nm 7) oYes (e2 addD (eVar 6) (eTup (aCons (eVar 7) aNil))))))) (sAsg (.nm 1) (eVar 5)))) (fun ps ρ => ∃ fs x2 x3 x4 x5 x6, ρ = R (some (.dat (.list (fs.map agD)))) x2 x3 x4 x5 x6 ∧ ps.foldl stepC fs = chs y.ps ∧ fs.length * 21 ^ ps.length ≤ 9261 ∧ (∀ f ∈ fs, f.length + ps.length ≤ 3) ∧ ∀ q ∈ ps, q.ok ks) (fun q ps ρ h => by
    obtain ⟨fs, x2, x3, x4, x5, x6, rfl, hf, hl, h3, hq⟩ := h
    have qo := hq q (by simp)
    have l0 := qo.l0
    have lg := qo.lg
    have g1 := qo.g1
    refine ⟨R (some (.dat (.list (fs.map agD)))) (some (.dat (.str q.k))) (some (.dat (.int q.l))) (some (.dat (.int q.g))) x5 x6, ?_⟩
    have lw : ((win q).length : Int) = q.g + 1 - q.l := by rw [win_len]; omega
    have r2 := ran2_ok (i := q.l) (j := q.g + 1) (by omega) (by omega) (by omega) (by omega) (by omega)
    have rw2 : rgD q.l (q.g + 1 - q.l).toNat = (win q).map .int := by
      unfold rgD win
      rw [List.map_map]
      rfl
    rw [rw2] at r2
    have slen := stepC_len (q := q) fs
    have s21 : (stepC fs q).length ≤ fs.length * 21 := by
      rw [slen]
      exact Nat.mul_le_mul_left _ (by omega)
    have pw : 1 ≤ 21 ^ ps.length := Nat.one_le_pow _ _ (by decide)
    have hl : fs.length * 21 * 21 ^ ps.length ≤ 9261 := by
      have : (q :: ps).length = ps.length + 1 := rfl
      rw [this, Nat.pow_succ, Nat.mul_comm (21 ^ ps.length) 21, ← Nat.mul_assoc] at hl
      exact hl
    have hs1 : (stepC fs q).length * 21 ^ ps.length ≤ 9261 := Nat.le_trans (Nat.mul_le_mul_right _ s21) hl
    have hs2 : (stepC fs q).length ≤ 9261 := Nat.le_trans (Nat.le_mul_of_pos_right _ pw) hs1
    obtain ⟨ρ', e1, i1⟩ := forG_inv (p := .nm 6) (e := agD) (body := sAsg (.nm 5) (e2 addD (eVar 5) (eLc true [7] (itG ran2D (aCons (eVar 3) (aCons (e2 addD (eVar 4) (eC (.int 1))) aNil))) (.nm 7) oYes (e2 addD (eVar 6) (eTup (aCons (eVar 7) aNil)))))) (fun gs ρ => ∃ acc x6, ρ = R (some (.dat (.list (fs.map agD)))) (some (.dat (.str q.k))) (some (.dat (.int q.l))) (some (.dat (.int q.g))) (some (.dat (.list (acc.map agD)))) x6 ∧ acc ++ stepC gs q = stepC fs q ∧ ∀ f ∈ gs, f.length ≤ 3) (fun g gs ρ h => by
      obtain ⟨acc, x6, rfl, ha, hg⟩ := h
      refine ⟨R (some (.dat (.list (fs.map agD)))) (some (.dat (.str q.k))) (some (.dat (.int q.l))) (some (.dat (.int q.g))) (some (.dat (.list (acc.map agD)))) (some (.dat (agD g))), R (some (.dat (.list (fs.map agD)))) (some (.dat (.str q.k))) (some (.dat (.int q.l))) (some (.dat (.int q.g))) (some (.dat (.list ((acc ++ (win q).map fun a => g ++ [a]).map agD)))) (some (.dat (agD g))), rfl, ?_, acc ++ (win q).map (fun a => g ++ [a]), _, rfl, ?_, fun f hf => hg f (by simp [hf])⟩
      · have el : eLc true [7] (itG ran2D (aCons (eVar 3) (aCons (e2 addD (eVar 4) (eC (.int 1))) aNil))) (.nm 7) oYes (e2 addD (eVar 6) (eTup (aCons (eVar 7) aNil))) (R (some (.dat (.list (fs.map agD)))) (some (.dat (.str q.k))) (some (.dat (.int q.l))) (some (.dat (.int q.g))) (some (.dat (.list (acc.map agD)))) (some (.dat (agD g)))) = some (.list (((win q).map fun a => g ++ [a]).map agD)) := by
          rw [List.map_map]
          refine ev_lcE (items := (win q).map .int) (ev_itG (ds := [.int q.l, .int (q.g + 1)]) rfl r2) (ev_lcG (t := agD ∘ fun a => g ++ [a]) (win q) fun a ha => ⟨_, rfl, ?_⟩)
          have g3 := hg g (by simp)
          refine (ev_e2 (a := agD g) (b := .tuple [.int a]) rfl rfl (add_tup (sz (by rw [List.length_map]; simp; omega)))).trans ?_
          show some (PyData.tuple (g.map .int ++ [.int a])) = some (PyData.tuple ((g ++ [a]).map .int))
          rw [List.map_append]
          rfl
        have ls : (acc.map agD).length + (((win q).map fun a => g ++ [a]).map agD).length ≤ sizeLine := sz (by
          have := congrArg List.length ha
          rw [List.length_append] at this
          unfold stepC at this
          rw [List.flatMap_cons, List.length_append] at this
          unfold stepC at hs2
          rw [List.length_map, List.length_map]
          omega)
        unfold sAsg
        rw [ev_e2 (a := .list (acc.map agD)) (b := .list (((win q).map fun a => g ++ [a]).map agD)) rfl el (if_pos ls), List.map_append]
        rfl
      · rw [← ha]
        unfold stepC
        rw [List.flatMap_cons, List.append_assoc]) fs (R (some (.dat (.list (fs.map agD)))) (some (.dat (.str q.k))) (some (.dat (.int q.l))) (some (.dat (.int q.g))) (some (.dat (.list []))) x6) ⟨[], _, rfl, rfl, fun f hf => by have := h3 f hf; omega⟩
    obtain ⟨acc, x6', rfl, ha, _⟩ := i1
    have ha : acc ++ [] = stepC fs q := ha
    rw [List.append_nil] at ha
    subst ha
    refine ⟨_, rfl, (ev_asg (d := .list []) (ρ' := R (some (.dat (.list (fs.map agD)))) (some (.dat (.str q.k))) (some (.dat (.int q.l))) (some (.dat (.int q.g))) (some (.dat (.list []))) x6) rfl rfl).trans ((ev_seq (ev_forS (items := fs.map agD) rfl e1)).trans rfl), stepC fs q, _, _, _, _, _, rfl, hf, hs1, fun f hf => ?_, fun q' hq' => hq q' (by simp [hq'])⟩
    obtain ⟨g, hg, hm⟩ := List.mem_flatMap.mp hf
    obtain ⟨a, _, rfl⟩ := List.mem_map.mp hm
    have := h3 g hg
    rw [List.length_append]
    simp only [List.length_cons, List.length_nil] at this ⊢
    omega) y.ps (R (some (.dat (.list [.tuple []]))) none none none none none) ⟨[[]], _, _, _, _, _, rfl, rfl, by
    have : y.ps.length = 0 ∨ y.ps.length = 1 ∨ y.ps.length = 2 ∨ y.ps.length = 3 := by omega
    rcases this with h | h | h | h <;> rw [h] <;> decide, by simpa using p3, hy.ps⟩
  refine (ev_seq (ev_forS (items := y.ps.map Pt.d) rfl e1)).trans ?_
  obtain ⟨fs, x2, x3, x4, x5, x6, rfl, hf, _⟩ := i1
  have hf : fs = chs y.ps := hf
  rw [hf]
  rfl
end
end Dl
namespace Dl
open PySem PySem.Spec PyProof.Rows L2 Rt
/-! ### closing a table -/
def stepT (X : Wd) (y : Wy) (p : Int) (t : Tb) (as : List Int) : Tb := match mdT X t y p as with
  | none => t
  | some (k, o, a) => if hasC X t k o a = true then t else putT X t k o a
def passT (X : Wd) (t : Tb) : Tb := X.ws.foldl (fun t y => y.hs.foldl (fun t p => (chs y.ps).foldl (stepT X y p) t) t) t
def srcT (X : Wd) (t : Tb) : Tb := X.ss.foldl (fun t r => putT X t r.k (r.s + (r.p - r.s) % X.n - r.a) r.a) t
def fN : Option Int → Nat
  | none => 1
  | some _ => 0
def fB : Option Int → Nat
  | none => 3000000000000000
  | some i => (i + 21).toNat
def bnd (t : Tb) : Int := (1000000000001000 : Int) + 30 * (700 - (smT fN t : Int))
structure Inv (X : Wd) (t : Tb) : Prop where
  g : TbG (bnd t) X t
  n : smT fN t ≤ 648
theorem nn_le {B : Int} {X : Wd} {t : Tb} (h : TbG B X t) (hX : X.ok) : smT fN t ≤ 648 := by
  have n6 := hX.n6
  have k4 := hX.k4
  have hl := h.l
  have a : smT fN t ≤ t.length * 162 := sum_le fun r hr => by
    have rl := h.r r hr
    have b : smR fN r ≤ r.length * 27 := sum_le fun s hs => by
      obtain ⟨p, hp⟩ := List.getElem?_of_mem hs
      have sl := (h.s r hr p s hp).l
      have c : smS fN s ≤ s.length * 1 := sum_le fun c _ => by cases c <;> simp [fN]
      omega
    omega
  omega
theorem Inv.ok {X : Wd} {t : Tb} (h : Inv X t) : tbOk X t := h.g.ok (by unfold bnd; omega)
theorem TbG.up {B B' : Int} {X : Wd} {t : Tb} (h : TbG B X t) (hB : B ≤ B') : TbG B' X t := ⟨h.l, h.r, fun r hr p s e => (h.s r hr p s e).up hB⟩
theorem Inv.of {X : Wd} {t : Tb} (h : TbG (1000000000001000 : Int) X t) (hX : X.ok) : Inv X t := ⟨h.up (by have := nn_le h hX; unfold bnd; omega), nn_le h hX⟩
theorem put_inv0 {X : Wd} {t : Tb} (h : Inv X t) (hX : X.ok) {k : Str} (hk : k ∈ X.ks) {o a : Int} (a0 : 0 ≤ a) (a1 : a ≤ 26) (o0 : -20 ≤ o) (o1 : o ≤ (1000000000001000 : Int)) : Inv X (putT X t k o a) := by
  have s := (put_sum h.g hX hk (o := o) a0 a1 (f := fN) fun c _ => by cases c <;> simp [fN, lowC]).1
  have n := h.n
  exact ⟨h.g.put hX hk (by unfold bnd; omega) o0 (by unfold bnd; omega), by omega⟩
theorem put_inv {X : Wd} {t : Tb} (h : Inv X t) (hX : X.ok) {k : Str} (hk : k ∈ X.ks) {o a : Int} (a0 : 0 ≤ a) (a1 : a ≤ 26) (o0 : -20 ≤ o) (o1 : o ≤ bnd t + 20) (hl : hasC X t k o a = false) : Inv X (putT X t k o a) ∧ smT fB (putT X t k o a) < smT fB t := by
  obtain ⟨s1, s2⟩ := put_sum h.g hX hk (o := o) a0 a1 (f := fN) fun c _ => by cases c <;> simp [fN, lowC]
  have n := h.n
  have bt : bnd t ≤ 2000000000000000 := by unfold bnd; omega
  obtain ⟨b1, b2⟩ := put_sum h.g hX hk (o := o) a0 a1 (f := fB) fun c hc => by
    cases c with
    | none => show (o + 21).toNat ≤ 3000000000000000; omega
    | some i =>
      show ((if i > o then o else i) + 21).toNat ≤ (i + 21).toNat
      split <;> omega
  have key : (o ≤ bnd (putT X t k o a)) ∧ fB (lowC (cl X t k o a) o) < fB (cl X t k o a) := by
    unfold hasC at hl
    cases hc : cl X t k o a with
    | none =>
      rw [hc] at s2
      have := s2 (show 0 < 1 by decide)
      exact ⟨by unfold bnd at o1 ⊢; omega, by show (o + 21).toNat < 3000000000000000; omega⟩
    | some i =>
      rw [hc] at hl
      have hl := of_decide_eq_false hl
      have r := h.g.res hX hk hc
      refine ⟨by have := r.2.2; unfold bnd at this ⊢; omega, ?_⟩
      show ((if i > o then o else i) + 21).toNat < (i + 21).toNat
      rw [if_pos (by omega)]
      omega
  exact ⟨⟨h.g.put hX hk (by unfold bnd; omega) o0 key.1, by omega⟩, b2 key.2⟩
theorem mo_bd {B : Int} {X : Wd} {t : Tb} {p : Int} (h : TbG B X t) (hX : X.ok) : ∀ (ps : List Pt) (as : List Int) (m m' : Int), (∀ q ∈ ps, q.k ∈ X.ks) → (∀ a ∈ as, 0 ≤ a ∧ a ≤ 20) → mo X t p ps as m = some m' → m ≤ m' ∧ (m' ≤ m ∨ m' ≤ B + 20)
  | [], as, m, m', _, _, e => by
    unfold mo at e
    cases e
    exact ⟨Int.le_refl _, .inl (Int.le_refl _)⟩
  | q :: ps, [], m, m', _, _, e => by
    unfold mo at e
    cases e
    exact ⟨Int.le_refl _, .inl (Int.le_refl _)⟩
  | q :: ps, a :: as, m, m', hq, ha, e => by
    have e : (cl X t q.k (p - a) a).bind (fun i => mo X t p ps as (if i + a > m then i + a else m)) = some m' := e
    obtain ⟨i, ei, e⟩ := some_bind e
    have r := h.res hX (hq q (by simp)) ei
    have a2 := ha a (by simp)
    obtain ⟨z1, z2⟩ := mo_bd h hX ps as _ m' (fun q h => hq q (by simp [h])) (fun a h => ha a (by simp [h])) e
    split at z1 <;> (split at z2 <;> omega)
theorem own_mem {y : Wy} {as : List Int} {o : Int} (h : ownO y as = some o) : o ∈ as := by
  have mem : ∀ (c : Int → Int → Bool) (as : List Int) (x : Int), as.foldl (fun a b => if c b a = true then b else a) x ∈ x :: as := by
    intro c as
    induction as with
    | nil => intro x; exact List.mem_cons_self
    | cons a as ih =>
      intro x
      show as.foldl _ (if c a x = true then a else x) ∈ _
      have := ih (if c a x = true then a else x)
      rcases List.mem_cons.mp this with h | h
      · rw [h]; split <;> simp
      · exact List.mem_cons_of_mem _ (List.mem_cons_of_mem _ h)
  unfold ownO at h
  cases as with
  | nil => split at h <;> cases h
  | cons a as =>
    split at h
    · have h : some (as.foldl (fun a b => if b > a then b else a) a) = some o := h
      cases h
      have := mem (fun b a => decide (b > a)) as a
      simp only [decide_eq_true_eq] at this
      exact this
    · have h : some (as.foldl (fun a b => if b < a then b else a) a) = some o := h
      cases h
      have := mem (fun b a => decide (b < a)) as a
      simp only [decide_eq_true_eq] at this
      exact this
theorem md_bd {B : Int} {X : Wd} {t : Tb} (h : TbG B X t) (hB : 0 ≤ B) (hX : X.ok) {y : Wy} (hy : y ∈ X.ws) {p : Int} (hp : p ∈ y.hs) {as : List Int} (ha : InW as y.ps) {k : Str} {o a : Int} (e : mdT X t y p as = some (k, o, a)) : k ∈ X.ks ∧ 0 ≤ a ∧ a ≤ 26 ∧ -20 ≤ o ∧ o ≤ B + 20 := by
  have yo := hX.ws y hy
  have w0 := yo.w0
  have w1 := yo.w1
  have hb := ha.bd yo.ps
  have hh := yo.hs p hp
  have n6 := hX.n6
  unfold mdT at e
  cases em : mo X t p y.ps as p with
  | none => rw [em] at e; cases e
  | some m =>
    cases eo : ownO y as with
    | none => rw [em, eo] at e; cases e
    | some ow =>
      rw [em, eo] at e
      injection e with e
      injection e with e1 e
      injection e with e2 e3
      have b := hb ow (own_mem eo)
      obtain ⟨z1, z2⟩ := mo_bd h hX y.ps as p m (fun q hq => (yo.ps q hq).k) hb em
      exact ⟨e1 ▸ yo.k, by omega, by omega, by omega, by omega⟩
def Dn (X : Wd) (t t' : Tb) : Prop := Inv X t' ∧ (t' = t ∨ smT fB t' < smT fB t)
theorem Dn.trans {X : Wd} {t u v : Tb} (h : Dn X t u) (g : Dn X u v) : Dn X t v := by
  refine ⟨g.1, ?_⟩
  rcases h.2 with rfl | h2
  · exact g.2
  · rcases g.2 with rfl | g2
    · exact .inr h2
    · exact .inr (by omega)
theorem fold_dn {X : Wd} {α : Type} {f : Tb → α → Tb} : ∀ (xs : List α) (t : Tb), Inv X t → (∀ x ∈ xs, ∀ t, Inv X t → Dn X t (f t x)) → Dn X t (xs.foldl f t)
  | [], t, h, _ => ⟨h, .inl rfl⟩
  | x :: xs, t, h, hf => (hf x (by simp) t h).trans (fold_dn xs (f t x) (hf x (by simp) t h).1 fun y hy => hf y (by simp [hy]))
theorem step_dn {X : Wd} (hX : X.ok) {t : Tb} (h : Inv X t) {y : Wy} (hy : y ∈ X.ws) {p : Int} (hp : p ∈ y.hs) {as : List Int} (ha : InW as y.ps) : Dn X t (stepT X y p t as) := by
  unfold stepT
  cases e : mdT X t y p as with
  | none => exact ⟨h, .inl rfl⟩
  | some q =>
    obtain ⟨k, o, a⟩ := q
    have n := h.n
    obtain ⟨hk, a0, a1, o0, o1⟩ := md_bd h.g (by unfold bnd; omega) hX hy hp ha e
    show Dn X t (if hasC X t k o a = true then t else putT X t k o a)
    cases hc : hasC X t k o a with
    | true => exact ⟨h, .inl rfl⟩
    | false =>
      have := put_inv h hX hk a0 a1 o0 o1 hc
      exact ⟨this.1, .inr this.2⟩
theorem pass_dn {X : Wd} (hX : X.ok) {t : Tb} (h : Inv X t) : Dn X t (passT X t) := fold_dn _ _ h fun y hy t h => fold_dn _ _ h fun p hp t h => fold_dn _ _ h fun as ha t h => step_dn hX h hy hp (chs_mem.mp ha)
theorem src_inv {X : Wd} (hX : X.ok) : ∀ (rs : List Sr), (∀ r ∈ rs, r.ok X.n X.ks) → ∀ t, Inv X t → Inv X (rs.foldl (fun t r => putT X t r.k (r.s + (r.p - r.s) % X.n - r.a) r.a) t)
  | [], _, t, h => h
  | r :: rs, hr, t, h => by
    have ro := hr r (by simp)
    have n1 := hX.n1
    have n6 := hX.n6
    have q0 := Int.emod_nonneg (r.p - r.s) (show X.n ≠ 0 by omega)
    have q1 := Int.emod_lt_of_pos (r.p - r.s) (show 0 < X.n by omega)
    have a0 := ro.a0
    have a1 := ro.a1
    have s0 := ro.s0
    have s1 := ro.s1
    exact src_inv hX rs (fun r h => hr r (by simp [h])) _ (put_inv0 h hX ro.k (by omega) (by omega) (by omega) (by omega))
def cloI (X : Wd) : Nat → Tb → Tb
  | 0, t => t
  | n + 1, t => if passT X t = t then t else cloI X n (passT X t)
theorem cloI_inv {X : Wd} (hX : X.ok) : ∀ (n : Nat) (t : Tb), Inv X t → Inv X (cloI X n t)
  | 0, t, h => h
  | n + 1, t, h => by
    unfold cloI
    split
    · exact h
    · exact cloI_inv hX n _ (pass_dn hX h).1
theorem cloI_fix {X : Wd} (hX : X.ok) : ∀ (n : Nat) (t : Tb), Inv X t → smT fB t < n → passT X (cloI X n t) = cloI X n t
  | 0, t, h, l => absurd l (Nat.not_lt_zero _)
  | n + 1, t, h, l => by
    unfold cloI
    split
    · rename_i e
      exact e
    · rename_i e
      have d := pass_dn hX h
      refine cloI_fix hX n _ d.1 ?_
      rcases d.2 with z | z
      · exact absurd z e
      · omega
def cloT (X : Wd) (t : Tb) : Tb := cloI X (smT fB (srcT X t) + 1) (srcT X t)
theorem clo_inv {X : Wd} (hX : X.ok) {t : Tb} (h : Inv X t) : Inv X (cloT X t) := cloI_inv hX _ _ (src_inv hX _ hX.ss _ h)
theorem clo_fix {X : Wd} (hX : X.ok) {t : Tb} (h : Inv X t) : passT X (cloT X t) = cloT X t := cloI_fix hX _ _ (src_inv hX _ hX.ss _ h) (Nat.lt_succ_self _)
end Dl
namespace Dl
open PySem PySem.Spec PyProof.Rows L2 Rt
theorem eqv_map {α : Type} [DecidableEq α] {f : α → D} (h : ∀ x y, PyData.eqv (f x) (f y) = decide (x = y)) : ∀ (a b : List α), PyData.eqvAll (a.map f) (b.map f) = decide (a = b)
  | [], [] => rfl
  | [], _ :: _ => rfl
  | _ :: _, [] => rfl
  | x :: a, y :: b => by
    show (PyData.eqv (f x) (f y) && PyData.eqvAll (a.map f) (b.map f)) = _
    rw [h, eqv_map h a b]
    by_cases e1 : x = y <;> by_cases e2 : a = b <;> simp [e1, e2]
theorem eqv_cel (x y : Option Int) : PyData.eqv (celD x) (celD y) = decide (x = y) := by
  cases x with
  | none => cases y <;> simp [celD, PyData.eqv]
  | some i =>
    cases y with
    | none => simp [celD, PyData.eqv]
    | some j =>
      show (i == j) = _
      by_cases e : i = j <;> simp [e]
theorem eqv_tb (a b : Tb) : PyData.eqv (tbD a) (tbD b) = decide (a = b) := eqv_map (f := rwD) (fun x y => eqv_map (f := stD) (fun x y => eqv_map (f := celD) eqv_cel x y) x y) a b
theorem depA {k : Nat} : ∀ {ds : List D}, (∀ d ∈ ds, d.depth ≤ k) → PyData.depthAll ds ≤ k
  | [], _ => Nat.zero_le _
  | d :: ds, h => by
    have a := h d (by simp)
    have b := depA fun x hx => h x (List.mem_cons_of_mem _ hx)
    show max d.depth (PyData.depthAll ds) ≤ k
    omega
theorem okTk {k : Nat} {ds : List D} (hk : k ≤ 62) (h : ∀ d ∈ ds, okD d = true ∧ d.depth ≤ k) : okD (.tuple ds) = true ∧ (PyData.tuple ds).depth ≤ k + 1 := by
  refine ⟨okT fun d hd => ⟨(h d hd).1, by have := (h d hd).2; omega⟩, ?_⟩
  show PyData.depthAll ds + 1 ≤ k + 1
  have := depA fun d hd => (h d hd).2
  omega
theorem ok_tb (t : Tb) : okD (tbD t) = true := (okTk (k := 2) (by decide) fun d hd => by
  obtain ⟨r, _, rfl⟩ := List.mem_map.mp hd
  exact okTk (k := 1) (by decide) fun d hd => by
    obtain ⟨s, _, rfl⟩ := List.mem_map.mp hd
    exact okTk (k := 0) (by decide) fun d hd => by
      obtain ⟨c, _, rfl⟩ := List.mem_map.mp hd
      cases c <;> exact ⟨rfl, Nat.le_refl _⟩).1
def SClo : Sem (Wd × Tb) where
  enc := fun (X, t) => [X.d, tbD t]
  ok := fun (X, t) => X.ok ∧ Inv X t
  out := fun (X, t) => tbD (cloT X t)
  fn := fun {a b} _ _ e => by
    obtain ⟨X, t⟩ := a
    obtain ⟨X', t'⟩ := b
    injection e with e1 e
    injection e with e2 e
    cases Wd.inj e1
    cases tbD.inj e2
    rfl
noncomputable def cloBody : Rho → Option Out := sSeq (sAsg (.nm 3) (eVar 1)) (sFor (itSeq (e2 ixD (eVar 0) (eC (.int 3)))) (.nm 4) (sFor (itSeq (e2 ixD (eVar 4) (eC (.int 3)))) (.nm 5) (sFor (itSeq (eCall (gN 1 SChs.f) (aCons (eVar 4) aNil))) (.nm 6) (sSeq (sAsg (.nm 7) (eCall (gN 5 SMdT.f) (aCons (eVar 0) (aCons (eVar 1) (aCons (eVar 4) (aCons (eVar 5) (aCons (eVar 6) aNil))))))) (sIf (oB (eCall (gN 3 SLkd.f) (aCons (eVar 0) (aCons (eVar 1) (aCons (eVar 7) aNil))))) (sAsg (.nm 1) (eCall (gN 3 SPut.f) (aCons (eVar 0) (aCons (eVar 1) (aCons (eVar 7) aNil))))) sNil)))))
def cloR (X : Wd) (t : Tb) (a b c d e f : Option LV) : Rho := [some (.dat X.d), some (.dat (tbD t)), a, b, c, d, e, f]
theorem clo_step {X : Wd} (hX : X.ok) {t : Tb} (h : Inv X t) {y : Wy} (hy : y ∈ X.ws) {p : Int} (hp : p ∈ y.hs) {as : List Int} (ha : InW as y.ps) (a b f : Option LV) : ∃ f', sSeq (sAsg (.nm 7) (eCall (gN 5 SMdT.f) (aCons (eVar 0) (aCons (eVar 1) (aCons (eVar 4) (aCons (eVar 5) (aCons (eVar 6) aNil))))))) (sIf (oB (eCall (gN 3 SLkd.f) (aCons (eVar 0) (aCons (eVar 1) (aCons (eVar 7) aNil))))) (sAsg (.nm 1) (eCall (gN 3 SPut.f) (aCons (eVar 0) (aCons (eVar 1) (aCons (eVar 7) aNil))))) sNil) (cloR X t a b (some (.dat y.d)) (some (.dat (.int p))) (some (.dat (agD as))) f) = some (.nx (cloR X (stepT X y p t as) a b (some (.dat y.d)) (some (.dat (.int p))) (some (.dat (agD as))) f')) := by
  have yo := hX.ws y hy
  have hb := ha.bd yo.ps
  have n := h.n
  refine ⟨some (.dat (thD (mdT X t y p as))), ?_⟩
  refine (ev_asg (d := thD (mdT X t y p as)) (ρ' := cloR X t a b (some (.dat y.d)) (some (.dat (.int p))) (some (.dat (agD as))) (some (.dat (thD (mdT X t y p as))))) (ev_call (ds := [X.d, tbD t, y.d, .int p, .tuple (as.map .int)]) rfl rfl (Sem.of (S := SMdT) (x := (X, t, y, p, as)) ⟨hX, h.ok, hy, ha.len, fun a ha => (hb a ha).1⟩)) rfl).trans ?_
  have bdT : ∀ k o a, mdT X t y p as = some (k, o, a) → k ∈ X.ks ∧ 0 ≤ a ∧ a ≤ 26 ∧ -20 ≤ o ∧ o ≤ bnd t + 20 := fun k o a e => md_bd h.g (by unfold bnd; omega) hX hy hp ha e
  have el : oB (eCall (gN 3 SLkd.f) (aCons (eVar 0) (aCons (eVar 1) (aCons (eVar 7) aNil)))) (cloR X t a b (some (.dat y.d)) (some (.dat (.int p))) (some (.dat (agD as))) (some (.dat (thD (mdT X t y p as))))) = some (lkB X t (mdT X t y p as)) := ev_oB (ev_call (ds := [X.d, tbD t, thD (mdT X t y p as)]) rfl rfl (Sem.of (S := SLkd) (x := (X, t, mdT X t y p as)) ⟨hX, h.ok, fun k o a e => ⟨(bdT k o a e).1, (bdT k o a e).2.1⟩⟩))
  unfold sIf
  rw [el]
  show (if lkB X t (mdT X t y p as) = true then _ else _) = _
  unfold stepT
  cases e : mdT X t y p as with
  | none => rfl
  | some q =>
    obtain ⟨k, o, ag⟩ := q
    obtain ⟨hk, a0, a1, _, _⟩ := bdT k o ag e
    show (if (!hasC X t k o ag) = true then _ else _) = some (Out.nx (cloR X (if hasC X t k o ag = true then t else putT X t k o ag) _ _ _ _ _ _))
    cases hc : hasC X t k o ag with
    | true => rfl
    | false =>
      show sAsg (.nm 1) _ _ = some (Out.nx (cloR X (putT X t k o ag) _ _ _ _ _ _))
      have ep : eCall (gN 3 SPut.f) (aCons (eVar 0) (aCons (eVar 1) (aCons (eVar 7) aNil))) (cloR X t a b (some (.dat y.d)) (some (.dat (.int p))) (some (.dat (agD as))) (some (.dat (thD (some (k, o, ag)))))) = some (tbD (putT X t k o ag)) := ev_call (ds := [X.d, tbD t, .tuple [.str k, .int o, .int ag]]) rfl rfl (Sem.of (S := SPut) (x := (X, t, k, o, ag)) ⟨hX, h.ok, hk, a0, a1⟩)
      unfold sAsg
      rw [ep]
      rfl
theorem clo_pass {X : Wd} (hX : X.ok) {t : Tb} (h : Inv X t) (a b c d e f : Option LV) : ∃ c' d' e' f', cloBody (cloR X t a b c d e f) = some (.nx (cloR X (passT X t) a (some (.dat (tbD t))) c' d' e' f')) := by
  obtain ⟨ρ', e1, i1⟩ := forG_inv (p := .nm 4) (e := Wy.d) (body := sFor (itSeq (e2 ixD (eVar 4) (eC (.int 3)))) (.nm 5) (sFor (itSeq (eCall (gN 1 SChs.f) (aCons (eVar 4) aNil))) (.nm 6) (sSeq (sAsg (.nm 7) (eCall (gN 5 SMdT.f) (aCons (eVar 0) (aCons (eVar 1) (aCons (eVar 4) (aCons (eVar 5) (aCons (eVar 6) aNil))))))) (sIf (oB (eCall (gN 3 SLkd.f) (aCons (eVar 0) (aCons (eVar 1) (aCons (eVar 7) aNil))))) (sAsg (.nm 1) (eCall (gN 3 SPut.f) (aCons (eVar 0) (aCons (eVar 1) (aCons (eVar 7) aNil))))) sNil)))) (fun ws ρ => ∃ u c d e f, ρ = cloR X u a (some (.dat (tbD t))) c d e f ∧ Inv X u ∧ (∀ y ∈ ws, y ∈ X.ws) ∧ ws.foldl (fun t y => y.hs.foldl (fun t p => (chs y.ps).foldl (stepT X y p) t) t) u = passT X t) (fun y ws ρ g => by
    obtain ⟨u, c, d, e, f, rfl, hu, hw, hf⟩ := g
    have hy := hw y (by simp)
    obtain ⟨ρ', e1, i1⟩ := forG_inv (p := .nm 5) (e := PyData.int) (body := sFor (itSeq (eCall (gN 1 SChs.f) (aCons (eVar 4) aNil))) (.nm 6) (sSeq (sAsg (.nm 7) (eCall (gN 5 SMdT.f) (aCons (eVar 0) (aCons (eVar 1) (aCons (eVar 4) (aCons (eVar 5) (aCons (eVar 6) aNil))))))) (sIf (oB (eCall (gN 3 SLkd.f) (aCons (eVar 0) (aCons (eVar 1) (aCons (eVar 7) aNil))))) (sAsg (.nm 1) (eCall (gN 3 SPut.f) (aCons (eVar 0) (aCons (eVar 1) (aCons (eVar 7) aNil))))) sNil))) (fun ps ρ => ∃ v d e f, ρ = cloR X v a (some (.dat (tbD t))) (some (.dat y.d)) d e f ∧ Inv X v ∧ (∀ p ∈ ps, p ∈ y.hs) ∧ ps.foldl (fun t p => (chs y.ps).foldl (stepT X y p) t) v = y.hs.foldl (fun t p => (chs y.ps).foldl (stepT X y p) t) u) (fun p ps ρ g => by
      obtain ⟨v, d, e, f, rfl, hv, hq, hg⟩ := g
      have hp := hq p (by simp)
      obtain ⟨ρ', e1, i1⟩ := forG_inv (p := .nm 6) (e := agD) (body := sSeq (sAsg (.nm 7) (eCall (gN 5 SMdT.f) (aCons (eVar 0) (aCons (eVar 1) (aCons (eVar 4) (aCons (eVar 5) (aCons (eVar 6) aNil))))))) (sIf (oB (eCall (gN 3 SLkd.f) (aCons (eVar 0) (aCons (eVar 1) (aCons (eVar 7) aNil))))) (sAsg (.nm 1) (eCall (gN 3 SPut.f) (aCons (eVar 0) (aCons (eVar 1) (aCons (eVar 7) aNil))))) sNil)) (fun cs ρ => ∃ z e f, ρ = cloR X z a (some (.dat (tbD t))) (some (.dat y.d)) (some (.dat (.int p))) e f ∧ Inv X z ∧ (∀ as ∈ cs, InW as y.ps) ∧ cs.foldl (stepT X y p) z = (chs y.ps).foldl (stepT X y p) v) (fun as cs ρ g => by
        obtain ⟨z, e, f, rfl, hz, hc, hk⟩ := g
        have ha := hc as (by simp)
        obtain ⟨f', ef⟩ := clo_step hX hz hy hp ha a (some (.dat (tbD t))) f
        exact ⟨_, _, rfl, ef, _, _, _, rfl, (step_dn hX hz hy hp ha).1, fun b hb => hc b (by simp [hb]), hk⟩) (chs y.ps) (cloR X v a (some (.dat (tbD t))) (some (.dat y.d)) (some (.dat (.int p))) e f) ⟨v, _, _, rfl, hv, fun as h => chs_mem.mp h, rfl⟩
      obtain ⟨z, e', f', rfl, hz, _, hk⟩ := i1
      have hk : z = (chs y.ps).foldl (stepT X y p) v := hk
      subst hk
      refine ⟨_, _, rfl, ev_forS (items := (chs y.ps).map agD) ?_ e1, _, _, _, _, rfl, hz, fun q hq' => hq q (by simp [hq']), hg⟩
      have ep : eCall (gN 1 SChs.f) (aCons (eVar 4) aNil) (cloR X v a (some (.dat (tbD t))) (some (.dat y.d)) (some (.dat (.int p))) e f) = some (.list ((chs y.ps).map agD)) := ev_call (ds := [y.d]) rfl rfl (Sem.of (S := SChs) (x := (X.n, X.ks, y)) (hX.ws y hy))
      exact (congrArg (fun o : Option D => o.bind seqD) ep).trans rfl) y.hs (cloR X u a (some (.dat (tbD t))) (some (.dat y.d)) d e f) ⟨u, _, _, _, rfl, hu, fun p h => h, rfl⟩
    obtain ⟨v, d', e', f', rfl, hv, _, hg⟩ := i1
    have hg : v = y.hs.foldl (fun t p => (chs y.ps).foldl (stepT X y p) t) u := hg
    subst hg
    exact ⟨_, _, rfl, ev_forS (items := y.hs.map .int) rfl e1, _, _, _, _, _, rfl, hv, fun z hz => hw z (by simp [hz]), hf⟩) X.ws (cloR X t a (some (.dat (tbD t))) c d e f) ⟨t, _, _, _, _, rfl, h, fun y h => h, rfl⟩
  obtain ⟨u, c', d', e', f', rfl, _, _, hf⟩ := i1
  have hf : u = passT X t := hf
  subst hf
  exact ⟨_, _, _, _, (ev_asg (d := tbD t) (ρ' := cloR X t a (some (.dat (tbD t))) c d e f) rfl rfl).trans (ev_forS (items := X.ws.map Wy.d) rfl e1)⟩
theorem clo_wh {X : Wd} (hX : X.ok) (a : Option LV) : ∀ (n : Nat) (t : Tb) (u : Option Tb) (c d e f : Option LV), Inv X t → smT fB t < n → u ≠ some t → ∃ b' c' d' e' f', whGo (oB (e2 neD (eVar 3) (eVar 1))) cloBody (n + 1) (cloR X t a (some (.dat ((u.map tbD).getD .none))) c d e f) = some (.nx (cloR X (cloI X n t) a b' c' d' e' f'))
  | 0, t, u, c, d, e, f, h, l, _ => absurd l (Nat.not_lt_zero _)
  | n + 1, t, u, c, d, e, f, h, l, hu => by
    have ec : oB (e2 neD (eVar 3) (eVar 1)) (cloR X t a (some (.dat ((u.map tbD).getD .none))) c d e f) = some true := by
      refine ev_oB (ev_e2 (a := (u.map tbD).getD .none) (b := tbD t) rfl rfl ?_)
      cases u with
      | none => exact ne_ok rfl (ok_tb t)
      | some u =>
        show neD (tbD u) (tbD t) = _
        rw [ne_ok (ok_tb u) (ok_tb t), eqv_tb, decide_eq_false (fun z => hu (congrArg some z))]
        rfl
    obtain ⟨c', d', e', f', eb⟩ := clo_pass hX h a (some (.dat ((u.map tbD).getD .none))) c d e f
    have e1 : whGo (oB (e2 neD (eVar 3) (eVar 1))) cloBody (n + 1 + 1) (cloR X t a (some (.dat ((u.map tbD).getD .none))) c d e f) = whGo (oB (e2 neD (eVar 3) (eVar 1))) cloBody (n + 1) (cloR X (passT X t) a (some (.dat (tbD t))) c' d' e' f') := by
      show ((oB (e2 neD (eVar 3) (eVar 1)) _).bind _) = _
      rw [ec]
      show ((cloBody _).bind _) = _
      rw [eb]
      rfl
    rw [e1]
    unfold cloI
    by_cases hp : passT X t = t
    · rw [if_pos hp, hp]
      refine ⟨some (.dat (tbD t)), c', d', e', f', ?_⟩
      have ec : oB (e2 neD (eVar 3) (eVar 1)) (cloR X t a (some (.dat (tbD t))) c' d' e' f') = some false := by
        refine ev_oB (ev_e2 (a := tbD t) (b := tbD t) rfl rfl ?_)
        rw [ne_ok (ok_tb t) (ok_tb t), eqv_tb, decide_eq_true rfl]
        rfl
      show ((oB (e2 neD (eVar 3) (eVar 1)) _).bind _) = _
      rw [ec]
      rfl
    · rw [if_neg hp]
      have dn := pass_dn hX h
      exact clo_wh hX a n (passT X t) (some t) c' d' e' f' dn.1 (by rcases dn.2 with z | z; exact absurd z hp; omega) (fun z => hp (Option.some.inj z).symm)
section
variable {P : Program} {w : World} {K : PySem.W.Frag} {mg : Str → Option Value} {base : Heap}
theorem ok_clo {f : Addr} {fd : FuncData} (F : Fun K "_law_closed" "_law_closed" s_law_closed f fd) (C__law_put : Cl P w K mg base 1 "_law_put" ["_law_world_here", "_law_sheet", "_law_thing"] (spD 3 SPut.f)) (C__law_brought : Cl P w K mg base 1 "_law_brought" ["_law_world_here", "_law_source"] (spD 2 SBrt.f)) (C__law_choices : Cl P w K mg base 1 "_law_choices" ["_law_way_here"] (spD 1 SChs.f)) (C__law_made : Cl P w K mg base 2 "_law_made" ["_law_world_here", "_law_sheet", "_law_way_here", "_law_place", "_law_ages"] (spD 5 SMdT.f)) (C__law_lacked : Cl P w K mg base 3 "_law_lacked" ["_law_world_here", "_law_sheet", "_law_thing"] (spD 3 SLkd.f)) : FnOk P w K mg base CX0 4 f fd ["_law_world_here", "_law_sheet"] (spD 2 SClo.f) := by
  refine okFn F sc_law_closed rfl fun cdv A outer s H E hr => ⟨_, (dSs_cons (dS_for (K := K) (p := (.nm 2)) (ps_for PassesOwn.never rfl (dI_seq (dE_ix (dE_var (μ := true) (pv 0)) (dE_c (μ := true) pe_int))) (pg_name (i := 2) sc_law_closed.nd rfl (.inl rfl))
    (dSs_one (dS_asg (K := K) (p := .nm 1) (ps_set (i := 1) sc_law_closed.nd rfl (.inl rfl) (dE_cl C__law_put (hr.mono (by omega)) (by rfl) (dA_cons (dE_var (μ := true) (pv 0)) (dA_cons (dE_var (μ := true) (pv 1)) (dA_cons (dE_cl C__law_brought (hr.mono (by omega)) (by rfl) (dA_cons (dE_var (μ := true) (pv 0)) (dA_cons (dE_var (μ := true) (pv 2)) (dA_nil (μ := true))))) (dA_nil (μ := true)))))))))))
  (dSs_cons (dS_asg (K := K) (p := .nm 3) (ps_set (i := 3) sc_law_closed.nd rfl (.inl rfl) (dE_c (μ := true) pe_non)))
  (dSs_cons (dS_while (ps_while PassesOwn.never (dT_cmp (o_ne hr.units) (dE_var (μ := true) (pv 3)) (dE_var (μ := true) (pv 1)) (nomark _))
    (dSs_cons (dS_asg (K := K) (p := .nm 3) (ps_set (i := 3) sc_law_closed.nd rfl (.inl rfl) (dE_var (μ := true) (pv 1))))
  (dSs_one (dS_for (K := K) (p := (.nm 4)) (ps_for PassesOwn.never rfl (dI_seq (dE_ix (dE_var (μ := true) (pv 0)) (dE_c (μ := true) pe_int))) (pg_name (i := 4) sc_law_closed.nd rfl (.inl rfl))
    (dSs_one (dS_for (K := K) (p := (.nm 5)) (ps_for PassesOwn.never rfl (dI_seq (dE_ix (dE_var (μ := true) (pv 4)) (dE_c (μ := true) pe_int))) (pg_name (i := 5) sc_law_closed.nd rfl (.inl rfl))
    (dSs_one (dS_for (K := K) (p := (.nm 6)) (ps_for PassesOwn.never rfl (dI_seq (dE_cl C__law_choices (hr.mono (by omega)) (by rfl) (dA_cons (dE_var (μ := true) (pv 4)) (dA_nil (μ := true))))) (pg_name (i := 6) sc_law_closed.nd rfl (.inl rfl))
    (dSs_cons (dS_asg (K := K) (p := .nm 7) (ps_set (i := 7) sc_law_closed.nd rfl (.inl rfl) (dE_cl C__law_made (hr.mono (by omega)) (by rfl) (dA_cons (dE_var (μ := true) (pv 0)) (dA_cons (dE_var (μ := true) (pv 1)) (dA_cons (dE_var (μ := true) (pv 4)) (dA_cons (dE_var (μ := true) (pv 5)) (dA_cons (dE_var (μ := true) (pv 6)) (dA_nil (μ := true))))))))))
  (dSs_one (dS_if (dT_val (dE_cl C__law_lacked (hr.mono (by omega)) (by rfl) (dA_cons (dE_var (μ := true) (pv 0)) (dA_cons (dE_var (μ := true) (pv 1)) (dA_cons (dE_var (μ := true) (pv 7)) (dA_nil (μ := true)))))))
    (dSs_one (dS_asg (K := K) (p := .nm 1) (ps_set (i := 1) sc_law_closed.nd rfl (.inl rfl) (dE_cl C__law_put (hr.mono (by omega)) (by rfl) (dA_cons (dE_var (μ := true) (pv 0)) (dA_cons (dE_var (μ := true) (pv 1)) (dA_cons (dE_var (μ := true) (pv 7)) (dA_nil (μ := true)))))))))
    dSs_nil)))))))))))))))
  (dSs_one (dS_ret (ps_ret (dE_var (μ := true) (pv 1)))))))), fun ds d l e => ?_⟩
  obtain ⟨⟨X, t⟩, ⟨hX, ht⟩, rfl, rfl⟩ := Sem.get e
  refine ⟨.rt (tbD (cloT X t)), ?_, rfl⟩
  obtain ⟨ρ', e1, i1⟩ := forG_inv (p := .nm 2) (e := Sr.d) (body := sAsg (.nm 1) (eCall (gN 3 SPut.f) (aCons (eVar 0) (aCons (eVar 1) (aCons (eCall (gN 2 SBrt.f) (aCons (eVar 0) (aCons (eVar 2) aNil))) aNil))))) (fun rs ρ => ∃ u a, ρ = cloR X u a none none none none none ∧ Inv X u ∧ (∀ r ∈ rs, r.ok X.n X.ks) ∧ rs.foldl (fun t r => putT X t r.k (r.s + (r.p - r.s) % X.n - r.a) r.a) u = srcT X t) (fun r rs ρ g => by
    obtain ⟨u, a, rfl, hu, hr, hf⟩ := g
    have ro := hr r (by simp)
    have a0 := ro.a0
    have a1 := ro.a1
    have hi := src_inv hX [r] (fun z hz => by rw [List.mem_singleton.mp hz]; exact ro) u hu
    refine ⟨_, cloR X (putT X u r.k (r.s + (r.p - r.s) % X.n - r.a) r.a) (some (.dat r.d)) none none none none none, rfl, ?_, _, _, rfl, hi, fun z hz => hr z (by simp [hz]), hf⟩
    unfold sAsg
    have eb : eCall (gN 2 SBrt.f) (aCons (eVar 0) (aCons (eVar 2) aNil)) (cloR X u (some (.dat r.d)) none none none none none) = some (.tuple [.str r.k, .int (r.s + (r.p - r.s) % X.n - r.a), .int r.a]) := ev_call (ds := [X.d, r.d]) rfl rfl (Sem.of (S := SBrt) (x := (X, r)) hX)
    refine (congrArg (fun o : Option D => o.bind fun d => (bindP (.nm 1) d (cloR X u (some (.dat r.d)) none none none none none)).map Out.nx) (ev_call (ds := [X.d, tbD u, .tuple [.str r.k, .int (r.s + (r.p - r.s) % X.n - r.a), .int r.a]]) (ev_cons rfl (ev_cons rfl (ev_cons eb rfl))) rfl (Sem.of (S := SPut) (x := (X, u, r.k, r.s + (r.p - r.s) % X.n - r.a, r.a)) ⟨hX, hu.ok, ro.k, by omega, by omega⟩))).trans rfl) X.ss (cloR X t none none none none none none) ⟨t, _, rfl, ht, hX.ss, rfl⟩
  obtain ⟨u, a, rfl, hu, _, hf⟩ := i1
  have hf : u = srcT X t := hf
  subst hf
  refine (ev_seq (ev_forS (items := X.ss.map Sr.d) rfl e1)).trans ?_
  refine (ev_asg (d := .none) (ρ' := cloR X (srcT X t) a (some (.dat .none)) none none none none) rfl rfl).trans ?_
  obtain ⟨b', c', d', e', f', ew⟩ := clo_wh hX a (smT fB (srcT X t) + 1) (srcT X t) none none none none none hu (Nat.lt_succ_self _) (fun z => nomatch z)
  refine (ev_seq (sWh_of _ ew)).trans rfl
end
end Dl
namespace Dl
open PySem PySem.Spec PyProof.Rows L2 Rt
/-! ### the least of a list of pairs of numbers -/
def prD (p : Int × Int) : D := .tuple [.int p.1, .int p.2]
def prsD : List D → Option (List (Int × Int))
  | [] => some []
  | .tuple [.int a, .int b] :: ds => (prsD ds).map ((a, b) :: ·)
  | _ => none
theorem prsD.map : ∀ ps : List (Int × Int), prsD (ps.map prD) = some ps
  | [] => rfl
  | p :: ps => by
    show (prsD (ps.map prD)).map _ = _
    rw [prsD.map ps]
    rfl
theorem prsD.get : ∀ {ds : List D} {ps : List (Int × Int)}, prsD ds = some ps → ds = ps.map prD
  | [], ps, e => by cases e; rfl
  | d :: ds, ps, e => by
    unfold prsD at e
    split at e
    · rename_i h
      cases h
    · rename_i a b ds' h
      injection h with h1 h2
      subst h1
      subst h2
      obtain ⟨qs, eq, rfl⟩ := some_map e
      rw [prsD.get eq]
      rfl
    · cases e
def leastP : List (Int × Int) → Option (Int × Int)
  | [] => none
  | p :: ps => some (PySem.W.minOf p ps)
def minPD : List D → Option D
  | [.list ds] => ((prsD ds).bind leastP).map prD
  | _ => none
theorem rv_get {M : Addr → Prop} {H : Hp} : ∀ {vs : List V} {us : List Value} {ds : List D} {i : Nat} {u : Value}, Vals vs us → RpAll M H vs ds → us[i]? = some u → ∃ v d, RelV v u ∧ Rp M H v d
  | _, _, _, _, _, .nil, .nil, e => nomatch e
  | _, _, _, 0, _, .cons r _, .cons h _, e => by
    cases e
    exact ⟨_, _, r, h⟩
  | _, _, _, i + 1, _, .cons _ r, .cons _ h, e => rv_get (i := i) r h e
section
variable {X : Cx}
theorem c_minP (hc : X.calm = true) (hu : X.A.units + 64 < cLine) : CallR X (.builtin "min") (rC minPD) := by
  intro pn s σ H xs us Q I r h
  obtain ⟨M, ds, d, dm, ra, e, q⟩ := h
  match ds, ra, e with
  | [.list ds], .cons (.lst t n l rr) .nil, e =>
    obtain ⟨m, em, rfl⟩ := some_map (show ((prsD ds).bind leastP).map prD = some d from e)
    obtain ⟨ps, en, el⟩ := some_bind em
    have hd := prsD.get en
    subst hd
    obtain ⟨its, rv, hl, _⟩ := I.list (SqL.of t)
    rw [Vals.ref1 r]
    obtain ⟨as, ra⟩ := RpAll.reads I rr rv
    cases ps with
    | nil => cases el
    | cons p ps =>
      have el : some (PySem.W.minOf p ps) = some m := el
      injection el with el
      subst el
      refine PySem.W.min_list_datum (α := Int × Int) (x := p) (xs := ps) (I.ok.hd hc) hl.isList ⟨as, show ReadsAll s.heap its.toArray.toList ((p :: ps).map prD) as by simpa using ra⟩ (Nat.lt_of_le_of_lt (show X.A.units + 1 + 1 ≤ X.A.units + 64 by omega) hu) fun i v h' tk hv hm hk => ?_
      obtain ⟨w, dw, rw1, rp⟩ := rv_get (i := i) rv rr (by simpa using hv)
      obtain ⟨bs, rb⟩ := hm
      obtain ⟨cs, rc⟩ := Rp.reads I rp rw1
      have ed := (reads_det (fun b o e _ => hk b o e) rc rb).1
      have ed : prD (PySem.W.minOf p ps) = dw := ed
      subst ed
      exact ⟨w, H, I.kept hk, rw1, q _ _ (Same.refl _) rp⟩
/-! ### a test that is a choice of two tests -/
theorem pt_ifx {c a b : Expr} {pos : Pos} {tc ta tb : L2.TT} (hc : PT X c tc) (ha : PT X a ta) (hb : PT X b tb) : PT X (.IfExp c a b pos) (fun σ H Q => tc σ H fun d H1 => if d = true then ta σ H1 Q else tb σ H1 Q) := ⟨fun pins s σ H Q I h => by
  show wpAny _ _ (do if ← isTrue c X.env (eval c X.env) then isTrue a X.env (eval a X.env) else isTrue b X.env (eval b X.env)) _ _ _
  refine wpAny_bind (wpAny_mono (hc.run pins s σ H _ I h) (fun d s1 ⟨H1, I1, q1⟩ => ?_) fun _ _ x => x)
  cases d with
  | true => exact ha.run pins s1 σ H1 Q I1 q1
  | false => exact hb.run pins s1 σ H1 Q I1 q1⟩
def oIf (c f g : Rho → Option Bool) : Rho → Option Bool := fun ρ => (c ρ).bind fun b => if b = true then f ρ else g ρ
theorem dT_ifx {c a b : Expr} {pos : Pos} {k f g : Rho → Option Bool} (hc : PT X c (tT k)) (ha : PT X a (tT f)) (hb : PT X b (tT g)) : PT X (.IfExp c a b pos) (tT (oIf k f g)) := (pt_ifx hc ha hb).wk fun σ H Q q => by
  obtain ⟨M0, H0, ρ, b, R, e, q⟩ := q
  obtain ⟨c, ec, e⟩ := some_bind e
  refine ⟨M0, H0, ρ, c, R, ec, fun H1 s1 => ?_⟩
  cases c with
  | true => exact ⟨M0, H0, ρ, b, R.mono s1, e, fun H2 s2 => q H2 (s1.trans s2)⟩
  | false => exact ⟨M0, H0, ρ, b, R.mono s1, e, fun H2 s2 => q H2 (s1.trans s2)⟩
/-! ### a, b, c = x, y, z where something is drawn -/
def swPar3 (i j k : Nat) (f : WP (List D)) : WP Out := ⟨fun ρ b Q => f.w ρ b fun ds b' => ∃ x y z, ds = [x, y, z] ∧ Q (.nx (((ρ.set i (some (.dat x))).set j (some (.dat y))).set k (some (.dat z)))) b', fun h z => f.m (fun ds b' ⟨x, y, u, e, w⟩ => ⟨x, y, u, e, h _ _ w⟩) z⟩
theorem nS_par3 {st : Stmt} {i j k : Nat} {f : WP (List D)} (h : PS X st (tPar3 i j k (tnA f))) : PS X st (tSn (swPar3 i j k f)) := h.wk fun Dn σ H q => by
  obtain ⟨g, M0, H0, ρ, b, R, q⟩ := q
  refine ⟨g, M0, H0, ρ, b, R, f.m (fun ds b1 ⟨x, y, z, e, q⟩ vs H1 k1 i1 r1 => ?_) q⟩
  subst e
  match vs, r1 with
  | [v, w, u], .cons ra (.cons rb (.cons rc .nil)) =>
    have sh : ∀ a', Mu true M0 (σ.set i (some v)) (ρ.set i (some (.dat x))) a' → Mu true M0 σ ρ a' := Mu.shrink fun ds e => by cases e
    have R1 := (R.up k1 i1).set (i := i) ra
    have R2 := R1.set (i := j) (rb.reM fun a m => .inl (sh a m))
    have sh2 : ∀ a', Mu true M0 ((σ.set i (some v)).set j (some w)) ((ρ.set i (some (.dat x))).set j (some (.dat y))) a' → Mu true M0 σ ρ a' := fun p m => sh p (Mu.shrink (fun ds e => by cases e) p m)
    have R3 := R2.set (i := k) (rc.reM fun a m => .inl (sh2 a m))
    refine ⟨v, w, u, rfl, q _ _ R3 ((R.stp k1).trans ⟨.refl, fun p m => .inl (sh2 p (Mu.shrink (fun ds e => by cases e) p m))⟩)⟩
/-! ### not in a list of texts, any needle -/
def ninL : D → D → Option D
  | a, .list ds => if ds.all isStrD = true then some (.bool (!ds.any fun z => PyData.eqv z a)) else none
  | _, _ => none
theorem o_ninL (hu : X.A.units + 65 < cLine) : OpR X (compareOp .NotIn) (rD ninL) := by
  intro pn s σ H x y v u Q I rx ry h
  obtain ⟨M, a, b, d, dm, ra, rb, e, q⟩ := h
  cases rb <;> (try (cases ra <;> cases e; done))
  rename_i xs ds t n l r
  obtain ⟨l2, rfl⟩ := iteS (show (if ds.all isStrD = true then some (PyData.bool (!ds.any fun z => PyData.eqv z a)) else none) = some d by cases a <;> exact e)
  cases ry
  obtain ⟨as, r1⟩ := Rp.reads I ra rx
  obtain ⟨its, vi, it, _⟩ := I.list (SqL.of t)
  refine SeqAt.notIn_listAt (eqS a) it.isList (fun y hy => ?_) ⟨.bl _, H, I, ?_, q _ _ (Same.refl _) (.bl _)⟩
  · obtain ⟨b, tk, rfl⟩ := mem_strs r vi l2 y (by simpa using hy)
    exact eqAt_str_any b tk r1 (show X.A.units + 1 < cLine by omega)
  · show Value.bool _ = Value.bool _
    rw [← any_strs r vi l2]
    simp
end
end Dl
namespace Dl
open PySem PySem.Spec PyProof.Rows L2 Rt
/-! ### the first moments of a part -/
theorem ev_lcGF {p : Pat} {c : Rho → Option Bool} {f : EF} {ρ : Rho} {α : Type} {e t : α → D} {k : α → Bool} : ∀ (xs : List α), (∀ x ∈ xs, ∃ ρ1, bindP p (e x) ρ = some ρ1 ∧ c ρ1 = some (k x) ∧ f ρ1 = some (t x)) → lcGo p c f ρ (xs.map e) = some ((xs.filter k).map t)
  | [], _ => rfl
  | x :: xs, h => by
    obtain ⟨ρ1, e1, e2, e3⟩ := h x (by simp)
    have ih := ev_lcGF xs fun y hy => h y (by simp [hy])
    show (bindP p (e x) ρ).bind _ = _
    rw [e1]
    show (c ρ1).bind _ = _
    rw [e2]
    cases hk : k x with
    | true =>
      rw [List.filter_cons_of_pos hk]
      show (f ρ1).bind _ = _
      rw [e3]
      show (lcGo _ _ _ _ _).map _ = _
      rw [ih]
      rfl
    | false =>
      rw [List.filter_cons_of_neg (by simp [hk])]
      exact ih
def opts (X : Wd) (t : Tb) (p : Int) (q : Pt) : List (Int × Int) := (win q).filterMap fun a => (fstC X t q.k p a).map fun m => (m, a)
theorem opts_map {X : Wd} {t : Tb} {p : Int} {q : Pt} : ∀ ws : List Int, ((ws.filter fun a => (fstC X t q.k p a).isSome).map fun a => PyData.tuple [celD (fstC X t q.k p a), .int a]) = (ws.filterMap fun a => (fstC X t q.k p a).map fun m => (m, a)).map prD
  | [] => rfl
  | a :: ws => by
    have ih := opts_map (X := X) (t := t) (p := p) (q := q) ws
    cases h : fstC X t q.k p a with
    | none =>
      rw [List.filter_cons_of_neg (by rw [h]; simp), List.filterMap_cons_none (by rw [h]; rfl)]
      exact ih
    | some m =>
      rw [List.filter_cons_of_pos (by rw [h]; rfl), List.filterMap_cons_some (b := (m, a)) (by rw [h]; rfl), List.map_cons, List.map_cons, ih, h]
      rfl
def SOpt : Sem (Wd × Tb × Pt × Int) where
  enc := fun (X, t, q, p) => [X.d, tbD t, q.d, .int p]
  ok := fun (X, t, q, _) => X.ok ∧ tbOk X t ∧ q.ok X.ks
  out := fun (X, t, q, p) => .list ((opts X t p q).map prD)
  fn := fun {a b} _ _ e => by
    obtain ⟨X, t, q, p⟩ := a
    obtain ⟨X', t', q', p'⟩ := b
    injection e with e1 e
    injection e with e2 e
    injection e with e3 e
    injection e with e4 e
    cases Wd.inj e1
    cases tbD.inj e2
    cases Pt.inj e3
    cases int_i e4
    rfl
def bes (kp : Str) (a : Int) (r : Int × Int) : Bool := if kp = Str.ofString "oldest" then decide (r.2 ≤ a) else decide (r.2 ≥ a)
def agesB (kp : Str) (h : Nat) (a : Int) : Nat → List (List (Int × Int)) → Option (List Int)
  | _, [] => some []
  | j, r :: rs => match leastP (r.filter (bes kp a)) with
    | none => none
    | some m => (agesB kp h a (j + 1) rs).map ((if j = h then a else m.2) :: ·)
def osD (r : List (Int × Int)) : D := .list (r.map prD)
theorem prD.inj {x y : Int × Int} (h : prD x = prD y) : x = y := by
  obtain ⟨a, b⟩ := x
  obtain ⟨c, d⟩ := y
  cases h
  rfl
theorem osD.inj {x y : List (Int × Int)} (h : osD x = osD y) : x = y := by
  injection h with h
  exact map_inj prD.inj h
def oaD : Option (List Int) → D
  | none => .none
  | some as => agD as
def SBes : Sem (Str × List (List (Int × Int)) × Nat × Int) where
  enc := fun (kp, os, h, a) => [.str kp, .list (os.map osD), .int (h : Nat), .int a]
  ok := fun (kp, os, _, _) => (kp = Str.ofString "oldest" ∨ kp = Str.ofString "youngest") ∧ os.length ≤ 3
  out := fun (kp, os, h, a) => oaD (agesB kp h a 0 os)
  fn := fun {x y} _ _ e => by
    obtain ⟨kp, os, h, a⟩ := x
    obtain ⟨kp', os', h', a'⟩ := y
    injection e with e1 e
    injection e with e2 e
    injection e with e3 e
    injection e with e4 e
    injection e2 with e2
    cases str_i e1
    cases map_inj osD.inj e2
    cases nat_i e3
    cases int_i e4
    rfl
def besR (kp : Str) (od : D) (h : Nat) (a : Int) (told : List Int) (x5 x6 x7 : Option LV) : Rho := [some (.dat (.str kp)), some (.dat od), some (.dat (.int (h : Nat))), some (.dat (.int a)), some (.own (told.map .int)), x5, x6, x7, none]
def besB : Rho → Option Out := sSeq (sAsg (Pat.nm 7) (eLc true [8] (itSeq (eVar 6)) (Pat.nm 8) (oIf (oB (e2 eqD (eVar 0) (eC (PyData.str (Str.ofString "oldest"))))) (oB (e2 leD (e2 ixD (eVar 8) (eC (PyData.int 1))) (eVar 3))) (oB (e2 geD (e2 ixD (eVar 8) (eC (PyData.int 1))) (eVar 3)))) (eVar 8))) (sSeq (sIf (oNot (oTr (eVar 7))) (sRet (eC PyData.none)) sNil) (sApp 4 (aCons (eIf (oB (e2 eqD (eVar 5) (eVar 2))) (eVar 3) (e2 ixD (eCall minPD (aCons (eVar 7) aNil)) (eC (PyData.int 1)))) aNil)))
theorem bes_step {kp : Str} (hk : kp = Str.ofString "oldest" ∨ kp = Str.ofString "youngest") {od : D} {h : Nat} {a : Int} {told : List Int} (hl : told.length ≤ 3) {x7 : Option LV} {j : Nat} {r : List (Int × Int)} : besB (besR kp od h a told (some (.dat (.int (j : Nat)))) (some (.dat (osD r))) x7) = match leastP (r.filter (bes kp a)) with
    | none => some (.rt .none)
    | some m => some (.nx (besR kp od h a (told ++ [if j = h then a else m.2]) (some (.dat (.int (j : Nat)))) (some (.dat (osD r))) (some (.dat (osD (r.filter (bes kp a))))))) := by
  have e1 : eLc true [8] (itSeq (eVar 6)) (Pat.nm 8) (oIf (oB (e2 eqD (eVar 0) (eC (PyData.str (Str.ofString "oldest"))))) (oB (e2 leD (e2 ixD (eVar 8) (eC (PyData.int 1))) (eVar 3))) (oB (e2 geD (e2 ixD (eVar 8) (eC (PyData.int 1))) (eVar 3)))) (eVar 8) (besR kp od h a told (some (.dat (.int (j : Nat)))) (some (.dat (osD r))) x7) = some (osD (r.filter (bes kp a))) := by
    refine ev_lcE (items := r.map prD) rfl (ev_lcGF (e := prD) (t := prD) (k := bes kp a) r fun x hx => ⟨_, rfl, ?_, rfl⟩)
    rcases hk with hk | hk
    · have ek : eqD (.str kp) (.str (Str.ofString "oldest")) = some (.bool true) := by
        rw [hk, eq_ok (by decide +kernel) (by decide +kernel), show PyData.eqv (.str (Str.ofString "oldest")) (.str (Str.ofString "oldest")) = true by decide +kernel]
      unfold oIf
      rw [ev_oB (b := true) (ev_e2 (a := .str kp) (b := .str (Str.ofString "oldest")) rfl rfl ek)]
      have eb : bes kp a x = decide (x.2 ≤ a) := if_pos hk
      rw [eb]
      rfl
    · have ek : eqD (.str kp) (.str (Str.ofString "oldest")) = some (.bool false) := by
        rw [hk, eq_ok (by decide +kernel) (by decide +kernel), show PyData.eqv (.str (Str.ofString "youngest")) (.str (Str.ofString "oldest")) = false by decide +kernel]
      unfold oIf
      rw [ev_oB (b := false) (ev_e2 (a := .str kp) (b := .str (Str.ofString "oldest")) rfl rfl ek)]
      have eb : bes kp a x = decide (x.2 ≥ a) := if_neg (by rw [hk]; decide +kernel)
      rw [eb]
      rfl
  refine (ev_asg (d := osD (r.filter (bes kp a))) (ρ' := besR kp od h a told (some (.dat (.int (j : Nat)))) (some (.dat (osD r))) (some (.dat (osD (r.filter (bes kp a)))))) e1 rfl).trans ?_
  cases ef : r.filter (bes kp a) with
  | nil => rfl
  | cons p ps =>
    show sSeq _ _ _ = some (Out.nx (besR kp od h a (told ++ [if j = h then a else (PySem.W.minOf p ps).2]) _ _ _))
    refine (ev_guard (b := false) (d := .none) rfl rfl).trans ?_
    have em : eCall minPD (aCons (eVar 7) aNil) (besR kp od h a told (some (.dat (.int (j : Nat)))) (some (.dat (osD r))) (some (.dat (osD (p :: ps))))) = some (prD (PySem.W.minOf p ps)) := by
      show ((prsD ((p :: ps).map prD)).bind leastP).map prD = _
      rw [prsD.map]
      rfl
    have ei : eIf (oB (e2 eqD (eVar 5) (eVar 2))) (eVar 3) (e2 ixD (eCall minPD (aCons (eVar 7) aNil)) (eC (PyData.int 1))) (besR kp od h a told (some (.dat (.int (j : Nat)))) (some (.dat (osD r))) (some (.dat (osD (p :: ps))))) = some (.int (if j = h then a else (PySem.W.minOf p ps).2)) := by
      by_cases ej : j = h
      · refine ev_eIf (b := true) (ev_oB (ev_e2 (a := .int (j : Nat)) (b := .int (h : Nat)) rfl rfl ?_)) ?_
        · rw [eq_ok rfl rfl, ej]
          show some (PyData.bool ((h : Int) == (h : Int))) = _
          simp
        · rw [if_pos ej]
          rfl
      · refine ev_eIf (b := false) (ev_oB (ev_e2 (a := .int (j : Nat)) (b := .int (h : Nat)) rfl rfl ?_)) ?_
        · rw [eq_ok rfl rfl]
          show some (PyData.bool ((j : Int) == (h : Int))) = _
          congr 2
          exact beq_false_of_ne (by omega)
        · rw [if_neg ej]
          exact ev_e2 (a := prD (PySem.W.minOf p ps)) (b := .int 1) em rfl rfl
    have hs : (told.map PyData.int).length < sizeLine := Nat.lt_of_lt_of_le (show _ < 100000 by rw [List.length_map]; omega) (by decide)
    have ea := ev_cons (g := aNil) (ds := []) ei rfl
    show (aCons _ aNil _).bind _ = _
    rw [ea]
    show (if (told.map PyData.int).length < sizeLine then some (Out.nx _) else none) = _
    rw [if_pos hs]
    show some (Out.nx (besR kp od h a told _ _ _ |>.set 4 (some (.own (told.map .int ++ [.int (if j = h then a else (PySem.W.minOf p ps).2)]))))) = _
    show _ = some (Out.nx [some (.dat (.str kp)), some (.dat od), some (.dat (.int (h : Nat))), some (.dat (.int a)), some (.own ((told ++ [if j = h then a else (PySem.W.minOf p ps).2]).map .int)), _, _, _, none])
    rw [List.map_append]
    rfl
theorem bes_for {kp : Str} (hk : kp = Str.ofString "oldest" ∨ kp = Str.ofString "youngest") {od : D} {h : Nat} {a : Int} : ∀ (os : List (List (Int × Int))) (j : Nat) (told : List Int) (x5 x6 x7 : Option LV), told.length + os.length ≤ 3 → (agesB kp h a j os = none ∧ forGo (Pat.tp (Pats.cons (Pat.nm 5) (Pats.cons (Pat.nm 6) Pats.nil))) besB (enGo j (os.map osD)) (besR kp od h a told x5 x6 x7) = some (.rt .none)) ∨ ∃ as, agesB kp h a j os = some as ∧ ∃ y5 y6 y7, forGo (Pat.tp (Pats.cons (Pat.nm 5) (Pats.cons (Pat.nm 6) Pats.nil))) besB (enGo j (os.map osD)) (besR kp od h a told x5 x6 x7) = some (.nx (besR kp od h a (told ++ as) y5 y6 y7))
  | [], j, told, x5, x6, x7, _ => .inr ⟨[], rfl, x5, x6, x7, by rw [List.append_nil]; rfl⟩
  | r :: os, j, told, x5, x6, x7, hl => by
    rw [List.length_cons] at hl
    have st := bes_step hk (od := od) (h := h) (a := a) (told := told) (by omega) (x7 := x7) (j := j) (r := r)
    have bd : bindP (Pat.tp (Pats.cons (Pat.nm 5) (Pats.cons (Pat.nm 6) Pats.nil))) (.tuple [.int (j : Nat), osD r]) (besR kp od h a told x5 x6 x7) = some (besR kp od h a told (some (.dat (.int (j : Nat)))) (some (.dat (osD r))) x7) := rfl
    unfold agesB
    cases em : leastP (r.filter (bes kp a)) with
    | none =>
      rw [em] at st
      exact .inl ⟨rfl, ev_forR bd st⟩
    | some m =>
      rw [em] at st
      have ef : forGo (Pat.tp (Pats.cons (Pat.nm 5) (Pats.cons (Pat.nm 6) Pats.nil))) besB (enGo j ((r :: os).map osD)) (besR kp od h a told x5 x6 x7) = _ := ev_forC bd st
      rw [ef]
      rcases bes_for hk (od := od) (h := h) (a := a) os (j + 1) (told ++ [if j = h then a else m.2]) (some (.dat (.int (j : Nat)))) (some (.dat (osD r))) (some (.dat (osD (r.filter (bes kp a))))) (by rw [List.length_append]; simp only [List.length_cons, List.length_nil]; omega) with ⟨e1, e2⟩ | ⟨as, e1, y5, y6, y7, e2⟩
      · exact .inl ⟨by rw [e1]; rfl, e2⟩
      · exact .inr ⟨(if j = h then a else m.2) :: as, by rw [e1]; rfl, y5, y6, y7, by rw [e2, List.append_assoc]; rfl⟩
section
variable {P : Program} {w : World} {K : PySem.W.Frag} {mg : Str → Option Value} {base : Heap}
theorem ok_opt {f : Addr} {fd : FuncData} (F : Fun K "part_options" "part_options" s_part_options f fd) (m_range : mg "range" = none) (C_first_there : Cl P w K mg base 2 "first_there" ["world", "table", "kind", "place", "age"] (spD 5 SThr.f)) : FnOk P w K mg base CX0 3 f fd ["world", "table", "part", "place"] (spD 4 SOpt.f) := by
  refine okFn F sc_part_options rfl fun cdv A outer s H E hr => ⟨_, (dSs_cons (dS_asg (K := K) (p := (.tp (.cons (.nm 4) (.cons (.nm 5) (.cons (.nm 6) .nil))))) (ps_asg (dE_var (μ := true) (pv 2)) (pg_tup (by rfl) (pgs_cons (pg_name (i := 4) sc_part_options.nd rfl (.inr rfl)) (pgs_cons (pg_name (i := 5) sc_part_options.nd rfl (.inl rfl)) (pgs_cons (pg_name (i := 6) sc_part_options.nd rfl (.inl rfl)) pgs_nil))))))
  (dSs_cons (dS_lc (K := K) (p := (.nm 8)) (ps_setLc (i := 7) (own := [("age", 8)]) (g := gP K (.nm 8)) rfl sc_part_options.nd rfl rfl (sw_true rfl rfl rfl (by decide +kernel)) (dI_ran2 (by rfl) m_range (dA_cons (dE_var (μ := true) (pv 5)) (dA_cons (dE_op o_add (dE_var (μ := true) (pv 6)) (dE_c (μ := true) pe_int)) (dA_nil (μ := true))))) (blkOk_by (own := [("age", 8)]) (N := ["world", "table", "part", "place", "kind", "least", "greatest", "firsts", "age", "moment"]) (sc := defScope s_part_options) (by decide +kernel)) (fun _ _ _ _ _ => (pg_name (i := 8) sc_part_options.nd rfl (.inl rfl))) (fun _ _ _ _ _ => dTs_nil) (fun _ _ _ _ _ => (dE_tup (dA_cons (dE_cl C_first_there (hr.mono (by omega)) (by rfl) (dA_cons (dE_var (μ := true) (pv 0)) (dA_cons (dE_var (μ := true) (pv 1)) (dA_cons (dE_var (μ := true) (pv 4)) (dA_cons (dE_var (μ := true) (pv 3)) (dA_cons (dE_var (μ := true) (pv 8)) (dA_nil (μ := true)))))))) (dA_cons (dE_var (μ := true) (pv 8)) (dA_nil (μ := true))))))))
  (dSs_one (dS_ret (ps_ret (dE_lc (K := K) (p := (.tp (.cons (.nm 9) (.cons (.nm 8) .nil)))) (pe_lc (own := [("moment", 9), ("age", 8)]) (g := gP K (.tp (.cons (.nm 9) (.cons (.nm 8) .nil)))) rfl sc_part_options.nd (dI_seq (dE_var (μ := true) (pv 7))) (blkOk_by (own := [("moment", 9), ("age", 8)]) (N := ["world", "table", "part", "place", "kind", "least", "greatest", "firsts", "age", "moment"]) (sc := defScope s_part_options) (by decide +kernel)) (fun _ _ _ _ _ => (pg_tup (by rfl) (pgs_cons (pg_name (i := 9) sc_part_options.nd rfl (.inl rfl)) (pgs_cons (pg_name (i := 8) sc_part_options.nd rfl (.inl rfl)) pgs_nil)))) (fun _ _ _ _ _ => (pts_one (dT_cmp o_isnot (dE_var (μ := true) (pv 9)) (dE_c (μ := true) pe_non) (nomark _)))) (fun _ _ _ _ _ => (dE_tup (dA_cons (dE_var (μ := true) (pv 9)) (dA_cons (dE_var (μ := true) (pv 8)) (dA_nil (μ := true))))))))))))), fun ds d l e => ?_⟩
  obtain ⟨⟨X, t, q, p⟩, ⟨hX, ht, hq⟩, rfl, rfl⟩ := Sem.get e
  have l0 := hq.l0
  have lg := hq.lg
  have g1 := hq.g1
  refine ⟨.rt (.list ((opts X t p q).map prD)), ?_, rfl⟩
  let R : Option LV → Rho := fun a => [some (.dat X.d), some (.dat (tbD t)), some (.dat q.d), some (.dat (.int p)), some (.dat (.str q.k)), some (.dat (.int q.l)), some (.dat (.int q.g)), a, none, none]
  refine (ev_asg (d := q.d) (ρ' := R none) rfl rfl).trans ?_
  have r2 := ran2_ok (i := q.l) (j := q.g + 1) (by omega) (by omega) (by omega) (by omega) (by omega)
  have rw2 : rgD q.l (q.g + 1 - q.l).toNat = (win q).map .int := by
    unfold rgD win
    rw [List.map_map]
    rfl
  rw [rw2] at r2
  refine (ev_asg (d := .list ((win q).map fun a => .tuple [celD (fstC X t q.k p a), .int a])) (ρ' := R (some (.dat (.list ((win q).map fun a => .tuple [celD (fstC X t q.k p a), .int a]))))) (ev_lcE (items := (win q).map .int) (ev_itG (ds := [.int q.l, .int (q.g + 1)]) rfl r2) (ev_lcG (t := fun a => .tuple [celD (fstC X t q.k p a), .int a]) (win q) fun a ha => ⟨_, rfl, ?_⟩)) rfl).trans ?_
  · have hw := win_mem.mp ha
    exact ev_tupX (ev_cons (ev_call (ds := [X.d, tbD t, .str q.k, .int p, .int a]) rfl rfl (Sem.of (S := SThr) (x := (X, t, q.k, p, a)) ⟨hX, ht, hq.k, by omega⟩)) rfl) (by simp)
  · refine ev_ret ?_
    unfold opts
    rw [← opts_map]
    refine ev_lcE (items := (win q).map fun a => .tuple [celD (fstC X t q.k p a), .int a]) rfl (ev_lcGF (e := fun a => .tuple [celD (fstC X t q.k p a), .int a]) (t := fun a => .tuple [celD (fstC X t q.k p a), .int a]) (k := fun a => (fstC X t q.k p a).isSome) (win q) fun a ha => ⟨_, rfl, ?_, rfl⟩)
    cases fstC X t q.k p a <;> rfl
theorem ok_bes {f : Addr} {fd : FuncData} (F : Fun K "ages_beside" "ages_beside" s_ages_beside f fd) (m_min : mg "min" = none) (m_enumerate : mg "enumerate" = none) (m_tuple : mg "tuple" = none) : FnOk P w K mg base CX0 1 f fd ["keeps", "options", "handing", "age"] (spD 4 SBes.f) := by
  refine okFn F sc_ages_beside rfl fun cdv A outer s H E hr => ⟨_, (dSs_cons (dS_own (ps_set (i := 4) sc_ages_beside.nd rfl (.inl rfl) (oE_lst (dA_nil (μ := true)))))
  (dSs_cons (dS_for (K := K) (p := (.tp (.cons (.nm 5) (.cons (.nm 6) .nil)))) (ps_for PassesOwn.never rfl (dI_enum (by rfl) m_enumerate (dA_cons (dE_var (μ := true) (pv 1)) (dA_nil (μ := true)))) (pg_tup (by rfl) (pgs_cons (pg_name (i := 5) sc_ages_beside.nd rfl (.inl rfl)) (pgs_cons (pg_name (i := 6) sc_ages_beside.nd rfl (.inl rfl)) pgs_nil)))
    (dSs_cons (dS_lc (K := K) (p := (.nm 8)) (ps_setLc (i := 7) (own := [("row", 8)]) (g := gP K (.nm 8)) rfl sc_ages_beside.nd rfl rfl (sw_true rfl rfl rfl (by decide +kernel)) (dI_seq (dE_var (μ := true) (pv 6))) (blkOk_by (own := [("row", 8)]) (N := ["keeps", "options", "handing", "age", "told", "j", "rows", "beside", "row"]) (sc := defScope s_ages_beside) (by decide +kernel)) (fun _ _ _ _ _ => (pg_name (i := 8) sc_ages_beside.nd rfl (.inl rfl))) (fun _ _ _ _ _ => (pts_one (dT_ifx (dT_cmp (o_eq hr.units) (dE_var (μ := true) (pv 0)) (dE_c (μ := true) pe_str) (nomark _)) (dT_cmp o_le (dE_ix (dE_var (μ := true) (pv 8)) (dE_c (μ := true) pe_int)) (dE_var (μ := true) (pv 3)) (nomark _)) (dT_cmp o_ge (dE_ix (dE_var (μ := true) (pv 8)) (dE_c (μ := true) pe_int)) (dE_var (μ := true) (pv 3)) (nomark _))))) (fun _ _ _ _ _ => (dE_var (μ := true) (pv 8)))))
  (dSs_cons (dS_if (dT_not (dT_truth (dE_var (μ := true) (pv 7))))
    (dSs_one (dS_ret (ps_ret (dE_c (μ := true) pe_non))))
    dSs_nil)
  (dSs_one (dS_app (K := K) (ps_expr (pe_bm PySem.F.plainAttrs_list PySem.F.slot_list_append PySem.F.type_list_append mt_append (pv 4) (dA_cons (dE_if (dT_cmp (o_eq hr.units) (dE_var (μ := true) (pv 5)) (dE_var (μ := true) (pv 2)) (nomark _)) (dE_var (μ := true) (pv 3)) (dE_ix (dE_callB (c_minP rfl hr.units) (by rfl) m_min (by decide +kernel) (dA_cons (dE_var (μ := true) (pv 7)) (dA_nil (μ := true)))) (dE_c (μ := true) pe_int))) dA_nil)))))))))
  (dSs_one (dS_ret (ps_ret (dE_callTy c_tuple (by rfl) m_tuple (by decide +kernel) (dA_cons (dE_own (pv 4)) (dA_nil (μ := false))))))))), fun ds d l e => ?_⟩
  obtain ⟨⟨kp, os, h, a⟩, ⟨hk, ol⟩, rfl, rfl⟩ := Sem.get e
  refine ⟨.rt (oaD (agesB kp h a 0 os)), ?_, rfl⟩
  refine (ev_own1 (ds := []) (ρ' := besR kp (.list (os.map osD)) h a [] none none none) rfl (by show 4 < 9; decide) rfl).trans ?_
  rcases bes_for hk (od := .list (os.map osD)) (h := h) (a := a) os 0 [] none none none (by simpa using ol) with ⟨e1, e2⟩ | ⟨as, e1, y5, y6, y7, e2⟩
  · rw [e1]
    exact ev_seqR (ev_forS (items := enGo 0 (os.map osD)) rfl e2)
  · rw [e1]
    exact (ev_seq (ev_forS (items := enGo 0 (os.map osD)) rfl e2)).trans rfl
end
end Dl
namespace Dl
open PySem PySem.Spec PyProof.Rows L2 Rt
/-! ### the leaks that the program looks for -/
def en {α : Type} : Nat → List α → List (Nat × α)
  | _, [] => []
  | j, x :: xs => (j, x) :: en (j + 1) xs
theorem en_go {α : Type} {f : α → D} : ∀ (j : Nat) (xs : List α), enGo j (xs.map f) = (en j xs).map fun z => .tuple [.int (z.1 : Nat), f z.2]
  | _, [] => rfl
  | j, x :: xs => by
    show PyData.tuple [.int (j : Nat), f x] :: enGo (j + 1) (xs.map f) = _
    rw [en_go (j + 1) xs]
    rfl
theorem en_rg {α : Type} : ∀ (j : Nat) (xs : List α), rgD (j : Int) xs.length = (en j xs).map fun z => .int (z.1 : Nat)
  | _, [] => rfl
  | j, x :: xs => by
    rw [List.length_cons, rgD_succ]
    have := en_rg (j + 1) xs
    rw [show ((j + 1 : Nat) : Int) = (j : Int) + 1 by omega] at this
    rw [this]
    rfl
theorem en_get {α : Type} : ∀ {j : Nat} {xs : List α} {i : Nat} {x : α}, (i, x) ∈ en j xs → j ≤ i ∧ xs[i - j]? = some x
  | _, [], _, _, h => nomatch h
  | j, y :: xs, i, x, h => by
    rcases List.mem_cons.mp h with e | h
    · cases e
      exact ⟨Nat.le_refl _, by rw [Nat.sub_self]; rfl⟩
    · obtain ⟨h1, h2⟩ := en_get (j := j + 1) h
      refine ⟨by omega, ?_⟩
      rw [show i - j = (i - (j + 1)) + 1 by omega]
      exact h2
theorem en_mem {α : Type} : ∀ {j : Nat} {xs : List α} {i : Nat} {x : α}, xs[i]? = some x → (j + i, x) ∈ en j xs
  | _, [], _, _, h => nomatch h
  | j, y :: xs, 0, x, h => by cases h; exact List.mem_cons_self
  | j, y :: xs, i + 1, x, h => by
    have := en_mem (j := j + 1) (i := i) (xs := xs) h
    rw [show j + (i + 1) = j + 1 + i by omega]
    exact List.mem_cons_of_mem _ this
theorem forG_find {α β : Type} {p : Pat} {body : Rho → Option Out} {e : α → D} {G : α → Option β} {f : β → D} (I : Rho → Prop) : ∀ (xs : List α) (ρ : Rho), I ρ → (∀ x ∈ xs, ∀ ρ, I ρ → ∃ ρ1, bindP p (e x) ρ = some ρ1 ∧ ((∃ d, G x = some d ∧ body ρ1 = some (.rt (f d))) ∨ (G x = none ∧ ∃ ρ2, body ρ1 = some (.nx ρ2) ∧ I ρ2))) → (∃ d, xs.findSome? G = some d ∧ forGo p body (xs.map e) ρ = some (.rt (f d))) ∨ (xs.findSome? G = none ∧ ∃ ρ', forGo p body (xs.map e) ρ = some (.nx ρ') ∧ I ρ')
  | [], ρ, h, _ => .inr ⟨rfl, ρ, rfl, h⟩
  | x :: xs, ρ, h, hs => by
    obtain ⟨ρ1, e1, h1⟩ := hs x (by simp) ρ h
    rcases h1 with ⟨d, e2, e3⟩ | ⟨e2, ρ2, e3, i2⟩
    · exact .inl ⟨d, by rw [List.findSome?_cons, e2], ev_forR e1 e3⟩
    · have ef : forGo p body ((x :: xs).map e) ρ = forGo p body (xs.map e) ρ2 := ev_forC e1 e3
      rw [List.findSome?_cons, e2, ef]
      exact forG_find I xs ρ2 i2 fun y hy => hs y (by simp [hy])
def tryA (X : Wd) (t : Tb) (y : Wy) (p : Int) (os : List (List (Int × Int))) (j : Nat) (r : Int × Int) : Option (List Int) := (agesB y.kp j r.2 0 os).bind fun as => if mdL X t y p as = true then some as else none
def lkA (X : Wd) (t : Tb) (y : Wy) (p : Int) : Option (List Int) := (en 0 (y.ps.map (opts X t p))).findSome? fun z => z.2.findSome? (tryA X t y p (y.ps.map (opts X t p)) z.1)
theorem opts_mem {X : Wd} {t : Tb} {p : Int} {q : Pt} {r : Int × Int} : r ∈ opts X t p q ↔ (q.l ≤ r.2 ∧ r.2 ≤ q.g) ∧ fstC X t q.k p r.2 = some r.1 := by
  unfold opts
  rw [List.mem_filterMap]
  constructor
  · rintro ⟨a, ha, e⟩
    obtain ⟨m, em, rfl⟩ := some_map e
    exact ⟨win_mem.mp ha, em⟩
  · rintro ⟨h1, h2⟩
    exact ⟨r.2, win_mem.mpr h1, by rw [h2]; rfl⟩
theorem min_mem : ∀ (ps : List (Int × Int)) (p : Int × Int), PySem.W.minOf p ps ∈ p :: ps
  | [], p => List.mem_cons_self
  | q :: ps, p => by
    show ps.foldl (fun a y => if PySem.W.DatumOrd.lt y a = true then y else a) (if PySem.W.DatumOrd.lt q p = true then q else p) ∈ _
    have := min_mem ps (if PySem.W.DatumOrd.lt q p = true then q else p)
    rcases List.mem_cons.mp this with h | h
    · have h : ps.foldl (fun a y => if PySem.W.DatumOrd.lt y a = true then y else a) (if PySem.W.DatumOrd.lt q p = true then q else p) = _ := h
      rw [h]
      split <;> simp
    · exact List.mem_cons_of_mem _ (List.mem_cons_of_mem _ h)
theorem least_mem {rs : List (Int × Int)} {m : Int × Int} (h : leastP rs = some m) : m ∈ rs := by
  cases rs with
  | nil => cases h
  | cons p ps => cases h; exact min_mem ps p
theorem ages_in {X : Wd} {t : Tb} {p : Int} {kp : Str} {h : Nat} {a : Int} : ∀ (ps : List Pt) (j : Nat) (as : List Int), agesB kp h a j (ps.map (opts X t p)) = some as → (∀ q, j ≤ h → ps[h - j]? = some q → q.l ≤ a ∧ a ≤ q.g) → InW as ps
  | [], j, as, e, _ => by cases e; exact trivial
  | q :: ps, j, as, e, hq => by
    unfold agesB at e
    rw [List.map_cons] at e
    dsimp only at e
    cases em : leastP ((opts X t p q).filter (bes kp a)) with
    | none => rw [em] at e; cases e
    | some m =>
      rw [em] at e
      obtain ⟨bs, eb, rfl⟩ := some_map e
      refine ⟨?_, ages_in ps (j + 1) bs eb fun q' h1 h2 => hq q' (by omega) ?_⟩
      · by_cases ej : j = h
        · show q.l ≤ (if j = h then a else m.2) ∧ (if j = h then a else m.2) ≤ q.g
          rw [if_pos ej]
          exact hq q (by omega) (by rw [ej, Nat.sub_self]; rfl)
        · show q.l ≤ (if j = h then a else m.2) ∧ (if j = h then a else m.2) ≤ q.g
          rw [if_neg ej]
          exact (opts_mem.mp (List.mem_filter.mp (least_mem em)).1).1
      · rw [show h - j = (h - (j + 1)) + 1 by omega]
        exact h2
theorem try_in {X : Wd} {t : Tb} {y : Wy} {p : Int} {j : Nat} {r : Int × Int} {rs : List (Int × Int)} (hz : (j, rs) ∈ en 0 (y.ps.map (opts X t p))) (hr : r ∈ rs) {as : List Int} (h : agesB y.kp j r.2 0 (y.ps.map (opts X t p)) = some as) : InW as y.ps := by
  refine ages_in y.ps 0 as h fun q _ e => ?_
  obtain ⟨_, g⟩ := en_get hz
  rw [Nat.sub_zero] at g e
  rw [List.getElem?_map, e] at g
  cases g
  exact (opts_mem.mp hr).1
def SLka : Sem (Wd × Tb × Nat × Wy × Int) where
  enc := fun (X, t, j, _, p) => [X.d, tbD t, .int (j : Nat), .int p]
  ok := fun (X, t, j, y, p) => X.ok ∧ tbOk X t ∧ X.ws[j]? = some y
  out := fun (X, t, _, y, p) => oaD (lkA X t y p)
  fn := fun {a b} ha hb e => by
    obtain ⟨X, t, j, y, p⟩ := a
    obtain ⟨X', t', j', y', p'⟩ := b
    injection e with e1 e
    injection e with e2 e
    injection e with e3 e
    injection e with e4 e
    cases Wd.inj e1
    cases tbD.inj e2
    cases nat_i e3
    cases int_i e4
    have h1 : X.ws[j]? = some y := ha.2.2
    have h2 : X.ws[j]? = some y' := hb.2.2
    rw [h1] at h2
    cases h2
    rfl
section
variable {P : Program} {w : World} {K : PySem.W.Frag} {mg : Str → Option Value} {base : Heap}
theorem ok_lka {f : Addr} {fd : FuncData} (F : Fun K "leaking_ages" "leaking_ages" s_leaking_ages f fd) (m_enumerate : mg "enumerate" = none) (C_part_options : Cl P w K mg base 3 "part_options" ["world", "table", "part", "place"] (spD 4 SOpt.f)) (C_ages_beside : Cl P w K mg base 1 "ages_beside" ["keeps", "options", "handing", "age"] (spD 4 SBes.f)) (C_is_made_leak : Cl P w K mg base 3 "is_made_leak" ["world", "table", "way", "place", "ages"] (spD 5 SMdL.f)) : FnOk P w K mg base CX0 4 f fd ["world", "table", "way", "place"] (spD 4 SLka.f) := by
  refine okFn F sc_leaking_ages rfl fun cdv A outer s H E hr => ⟨_, (dSs_cons (dS_asg (K := K) (p := (.tp (.cons (.nm 4) (.cons (.nm 5) (.cons (.nm 6) (.cons (.nm 7) (.cons (.nm 8) .nil))))))) (ps_asg (dE_ix (dE_ix (dE_var (μ := true) (pv 0)) (dE_c (μ := true) pe_int)) (dE_var (μ := true) (pv 2))) (pg_tup (by rfl) (pgs_cons (pg_name (i := 4) sc_leaking_ages.nd rfl (.inl rfl)) (pgs_cons (pg_name (i := 5) sc_leaking_ages.nd rfl (.inl rfl)) (pgs_cons (pg_name (i := 6) sc_leaking_ages.nd rfl (.inl rfl)) (pgs_cons (pg_name (i := 7) sc_leaking_ages.nd rfl (.inl rfl)) (pgs_cons (pg_name (i := 8) sc_leaking_ages.nd rfl (.inl rfl)) pgs_nil))))))))
  (dSs_cons (dS_lc (K := K) (p := (.nm 15)) (ps_setLc (i := 9) (own := [("part", 15)]) (g := gP K (.nm 15)) rfl sc_leaking_ages.nd rfl rfl (sw_true rfl rfl rfl (by decide +kernel)) (dI_seq (dE_var (μ := true) (pv 5))) (blkOk_by (own := [("part", 15)]) (N := ["world", "table", "way", "place", "kind", "parts", "keeps", "hours", "wait", "options", "j", "rows", "moment", "age", "ages", "part"]) (sc := defScope s_leaking_ages) (by decide +kernel)) (fun _ _ _ _ _ => (pg_name (i := 15) sc_leaking_ages.nd rfl (.inl rfl))) (fun _ _ _ _ _ => dTs_nil) (fun _ _ _ _ _ => (dE_cl C_part_options (hr.mono (by omega)) (by rfl) (dA_cons (dE_var (μ := true) (pv 0)) (dA_cons (dE_var (μ := true) (pv 1)) (dA_cons (dE_var (μ := true) (pv 15)) (dA_cons (dE_var (μ := true) (pv 3)) (dA_nil (μ := true))))))))))
  (dSs_cons (dS_for (K := K) (p := (.tp (.cons (.nm 10) (.cons (.nm 11) .nil)))) (ps_for PassesOwn.never rfl (dI_enum (by rfl) m_enumerate (dA_cons (dE_var (μ := true) (pv 9)) (dA_nil (μ := true)))) (pg_tup (by rfl) (pgs_cons (pg_name (i := 10) sc_leaking_ages.nd rfl (.inl rfl)) (pgs_cons (pg_name (i := 11) sc_leaking_ages.nd rfl (.inl rfl)) pgs_nil)))
    (dSs_one (dS_for (K := K) (p := (.tp (.cons (.nm 12) (.cons (.nm 13) .nil)))) (ps_for PassesOwn.never rfl (dI_seq (dE_var (μ := true) (pv 11))) (pg_tup (by rfl) (pgs_cons (pg_name (i := 12) sc_leaking_ages.nd rfl (.inl rfl)) (pgs_cons (pg_name (i := 13) sc_leaking_ages.nd rfl (.inl rfl)) pgs_nil)))
    (dSs_cons (dS_asg (K := K) (p := .nm 14) (ps_set (i := 14) sc_leaking_ages.nd rfl (.inl rfl) (dE_cl C_ages_beside (hr.mono (by omega)) (by rfl) (dA_cons (dE_var (μ := true) (pv 6)) (dA_cons (dE_var (μ := true) (pv 9)) (dA_cons (dE_var (μ := true) (pv 10)) (dA_cons (dE_var (μ := true) (pv 13)) (dA_nil (μ := true)))))))))
  (dSs_one (dS_if (PW.pt (dW_and (dT_cmp o_isnot (dE_var (μ := true) (pv 14)) (dE_c (μ := true) pe_non) (nomark _)) (dW_and1 (dT_val (dE_cl C_is_made_leak (hr.mono (by omega)) (by rfl) (dA_cons (dE_var (μ := true) (pv 0)) (dA_cons (dE_var (μ := true) (pv 1)) (dA_cons (dE_var (μ := true) (pv 2)) (dA_cons (dE_var (μ := true) (pv 3)) (dA_cons (dE_var (μ := true) (pv 14)) (dA_nil (μ := true))))))))))))
    (dSs_one (dS_ret (ps_ret (dE_var (μ := true) (pv 14)))))
    dSs_nil))))))))
  (dSs_one (dS_ret (ps_ret (dE_c (μ := true) pe_non))))))), fun ds d l e => ?_⟩
  obtain ⟨⟨X, t, j, y, p⟩, ⟨hX, ht, hj⟩, rfl, rfl⟩ := Sem.get e
  have hy := hX.ws y (List.mem_of_getElem? hj)
  refine ⟨.rt (oaD (lkA X t y p)), ?_, rfl⟩
  let os := y.ps.map (opts X t p)
  let R : Option LV → Option LV → Option LV → Option LV → Option LV → Option LV → Rho := fun o a b c d e => [some (.dat X.d), some (.dat (tbD t)), some (.dat (.int (j : Nat))), some (.dat (.int p)), some (.dat (.str y.k)), some (.dat (.tuple (y.ps.map Pt.d))), some (.dat (.str y.kp)), some (.dat (.tuple (y.hs.map .int))), some (.dat (.int y.w)), o, a, b, c, d, e, none]
  refine (ev_asg (d := y.d) (ρ' := R none none none none none none) (ev_e2 (a := .tuple (X.ws.map Wy.d)) (b := .int (j : Nat)) rfl rfl (at_map hj)) rfl).trans ?_
  refine (ev_asg (d := .list (os.map osD)) (ρ' := R (some (.dat (.list (os.map osD)))) none none none none none) ?_ rfl).trans ?_
  · show eLc _ _ _ _ _ _ _ = some (PyData.list ((y.ps.map (opts X t p)).map osD))
    rw [List.map_map]
    exact ev_lcE (items := y.ps.map Pt.d) rfl (ev_lcG (t := osD ∘ opts X t p) y.ps fun q hq => ⟨_, rfl, ev_call (ds := [X.d, tbD t, q.d, .int p]) rfl rfl (Sem.of (S := SOpt) (x := (X, t, q, p)) ⟨hX, ht, hy.ps q hq⟩)⟩)
  have ol : os.length ≤ 3 := by
    show (y.ps.map (opts X t p)).length ≤ 3
    rw [List.length_map]
    exact hy.p3
  have main := forG_find (p := Pat.tp (Pats.cons (Pat.nm 10) (Pats.cons (Pat.nm 11) Pats.nil))) (e := fun z : Nat × List (Int × Int) => .tuple [.int (z.1 : Nat), osD z.2]) (f := agD) (G := fun z => z.2.findSome? (tryA X t y p os z.1)) (body := sFor (itSeq (eVar 11)) (Pat.tp (Pats.cons (Pat.nm 12) (Pats.cons (Pat.nm 13) Pats.nil))) (sSeq (sAsg (.nm 14) (eCall (gN 4 SBes.f) (aCons (eVar 6) (aCons (eVar 9) (aCons (eVar 10) (aCons (eVar 13) aNil)))))) (sIf (oAnd (oB (e2 noND (eVar 14) (eC .none))) (oB (eCall (gN 5 SMdL.f) (aCons (eVar 0) (aCons (eVar 1) (aCons (eVar 2) (aCons (eVar 3) (aCons (eVar 14) aNil)))))))) (sRet (eVar 14)) sNil))) (fun ρ => ∃ a b c d e, ρ = R (some (.dat (.list (os.map osD)))) a b c d e) (en 0 os) (R (some (.dat (.list (os.map osD)))) none none none none none) ⟨_, _, _, _, _, rfl⟩ (fun z hz ρ i => by
    obtain ⟨a, b, c, d, e, rfl⟩ := i
    obtain ⟨jj, rs⟩ := z
    refine ⟨R (some (.dat (.list (os.map osD)))) (some (.dat (.int (jj : Nat)))) (some (.dat (osD rs))) c d e, rfl, ?_⟩
    have inner := forG_find (p := Pat.tp (Pats.cons (Pat.nm 12) (Pats.cons (Pat.nm 13) Pats.nil))) (e := prD) (f := agD) (G := tryA X t y p os jj) (body := sSeq (sAsg (.nm 14) (eCall (gN 4 SBes.f) (aCons (eVar 6) (aCons (eVar 9) (aCons (eVar 10) (aCons (eVar 13) aNil)))))) (sIf (oAnd (oB (e2 noND (eVar 14) (eC .none))) (oB (eCall (gN 5 SMdL.f) (aCons (eVar 0) (aCons (eVar 1) (aCons (eVar 2) (aCons (eVar 3) (aCons (eVar 14) aNil)))))))) (sRet (eVar 14)) sNil)) (fun ρ => ∃ c d e, ρ = R (some (.dat (.list (os.map osD)))) (some (.dat (.int (jj : Nat)))) (some (.dat (osD rs))) c d e) rs (R (some (.dat (.list (os.map osD)))) (some (.dat (.int (jj : Nat)))) (some (.dat (osD rs))) c d e) ⟨_, _, _, rfl⟩ (fun r hr ρ i => by
      obtain ⟨c, d, e, rfl⟩ := i
      refine ⟨R (some (.dat (.list (os.map osD)))) (some (.dat (.int (jj : Nat)))) (some (.dat (osD rs))) (some (.dat (.int r.1))) (some (.dat (.int r.2))) e, rfl, ?_⟩
      have ea : eCall (gN 4 SBes.f) (aCons (eVar 6) (aCons (eVar 9) (aCons (eVar 10) (aCons (eVar 13) aNil)))) (R (some (.dat (.list (os.map osD)))) (some (.dat (.int (jj : Nat)))) (some (.dat (osD rs))) (some (.dat (.int r.1))) (some (.dat (.int r.2))) e) = some (oaD (agesB y.kp jj r.2 0 os)) := ev_call (ds := [.str y.kp, .list (os.map osD), .int (jj : Nat), .int r.2]) rfl rfl (Sem.of (S := SBes) (x := (y.kp, os, jj, r.2)) ⟨hy.kp, ol⟩)
      have es := fun g => ev_asg (p := .nm 14) (g := g) (ρ' := R (some (.dat (.list (os.map osD)))) (some (.dat (.int (jj : Nat)))) (some (.dat (osD rs))) (some (.dat (.int r.1))) (some (.dat (.int r.2))) (some (.dat (oaD (agesB y.kp jj r.2 0 os))))) ea rfl
      rw [es]
      unfold tryA
      cases eb : agesB y.kp jj r.2 0 os with
      | none => exact .inr ⟨rfl, _, rfl, _, _, _, rfl⟩
      | some as =>
        have hi := try_in hz hr eb
        have hb := hi.bd hy.ps
        have em : oB (eCall (gN 5 SMdL.f) (aCons (eVar 0) (aCons (eVar 1) (aCons (eVar 2) (aCons (eVar 3) (aCons (eVar 14) aNil)))))) (R (some (.dat (.list (os.map osD)))) (some (.dat (.int (jj : Nat)))) (some (.dat (osD rs))) (some (.dat (.int r.1))) (some (.dat (.int r.2))) (some (.dat (agD as)))) = some (mdL X t y p as) := ev_oB (ev_call (ds := [X.d, tbD t, .int (j : Nat), .int p, agD as]) rfl rfl (Sem.of (S := SMdL) (x := (X, t, j, y, p, as)) ⟨hX, ht, hj, hi.len, fun a ha => (hb a ha).1⟩))
        have ec : oAnd (oB (e2 noND (eVar 14) (eC .none))) (oB (eCall (gN 5 SMdL.f) (aCons (eVar 0) (aCons (eVar 1) (aCons (eVar 2) (aCons (eVar 3) (aCons (eVar 14) aNil))))))) (R (some (.dat (.list (os.map osD)))) (some (.dat (.int (jj : Nat)))) (some (.dat (osD rs))) (some (.dat (.int r.1))) (some (.dat (.int r.2))) (some (.dat (agD as)))) = some (mdL X t y p as) := em
        show (∃ d, (if mdL X t y p as = true then some as else none) = some d ∧ sIf _ _ _ _ = _) ∨ ((if mdL X t y p as = true then some as else none) = none ∧ _)
        unfold sIf
        rw [show (oaD (some as)) = agD as from rfl, ec]
        cases mdL X t y p as with
        | true => exact .inl ⟨as, rfl, rfl⟩
        | false => exact .inr ⟨rfl, _, rfl, _, _, _, rfl⟩)
    rcases inner with ⟨d, e1, e2⟩ | ⟨e1, ρ', e2, c', d', e', rfl⟩
    · exact .inl ⟨d, e1, ev_forS (items := rs.map prD) rfl e2⟩
    · exact .inr ⟨e1, _, ev_forS (items := rs.map prD) rfl e2, _, _, _, _, _, rfl⟩)
  rw [← en_go] at main
  rcases main with ⟨d, e1, e2⟩ | ⟨e1, ρ', e2, _, _, _, _, _, rfl⟩
  · have : lkA X t y p = some d := e1
    rw [this]
    exact ev_seqR (ev_forS (items := enGo 0 (os.map osD)) rfl e2)
  · have : lkA X t y p = none := e1
    rw [this]
    exact (ev_seq (ev_forS (items := enGo 0 (os.map osD)) rfl e2)).trans rfl
end
end Dl
namespace Dl
open PySem PySem.Spec PyProof.Rows L2 Rt
/-! ### none is left out -/
theorem lt_fst {x y : Int × Int} : PySem.W.DatumOrd.lt x y = true → x.1 ≤ y.1 := by
  intro h
  have h : (if x.1 = y.1 then decide (x.2 < y.2) else decide (x.1 < y.1)) = true := h
  split at h
  · omega
  · have := of_decide_eq_true h
    omega
theorem nlt_fst {x y : Int × Int} : ¬ PySem.W.DatumOrd.lt x y = true → y.1 ≤ x.1 := by
  intro h
  have h : ¬ (if x.1 = y.1 then decide (x.2 < y.2) else decide (x.1 < y.1)) = true := h
  split at h
  · omega
  · simp only [decide_eq_true_eq] at h
    omega
theorem min_le : ∀ (ps : List (Int × Int)) (p : Int × Int), ∀ x ∈ p :: ps, (PySem.W.minOf p ps).1 ≤ x.1
  | [], p, x, hx => by
    rw [List.mem_singleton.mp hx]
    exact Int.le_refl _
  | q :: ps, p, x, hx => by
    show (PySem.W.minOf (if PySem.W.DatumOrd.lt q p = true then q else p) ps).1 ≤ x.1
    have ih := min_le ps (if PySem.W.DatumOrd.lt q p = true then q else p)
    have h0 := ih _ List.mem_cons_self
    rcases List.mem_cons.mp hx with rfl | hx
    · refine Int.le_trans h0 ?_
      split
      · rename_i h; exact lt_fst h
      · exact Int.le_refl _
    · rcases List.mem_cons.mp hx with rfl | hx
      · refine Int.le_trans h0 ?_
        split
        · exact Int.le_refl _
        · rename_i h; exact nlt_fst h
      · exact ih x (List.mem_cons_of_mem _ hx)
theorem least_le {rs : List (Int × Int)} {x : Int × Int} (hx : x ∈ rs) : ∃ m, leastP rs = some m ∧ m.1 ≤ x.1 := by
  cases rs with
  | nil => cases hx
  | cons p ps => exact ⟨_, rfl, min_le ps p x hx⟩
def leK (kp : Str) (a ow : Int) : Prop := if kp = Str.ofString "oldest" then a ≤ ow else ow ≤ a
theorem bes_iff {kp : Str} {ow : Int} {r : Int × Int} : bes kp ow r = true ↔ leK kp r.2 ow := by
  unfold bes leK
  split <;> simp
theorem mo_step {X : Wd} {t : Tb} {p a m0 : Int} {q : Pt} {ps : List Pt} {as : List Int} : mo X t p (q :: ps) (a :: as) m0 = (cl X t q.k (p - a) a).bind fun i => mo X t p ps as (if i + a > m0 then i + a else m0) := rfl
theorem mo_mod {B : Int} {X : Wd} {t : Tb} {p : Int} (h : TbG B X t) (hX : X.ok) : ∀ (ps : List Pt) (as : List Int) (m m' : Int), (∀ q ∈ ps, q.k ∈ X.ks) → mo X t p ps as m = some m' → m % X.n = p % X.n → m' % X.n = p % X.n
  | [], as, m, m', _, e, hm => by
    unfold mo at e
    cases e
    exact hm
  | q :: ps, [], m, m', _, e, hm => by
    unfold mo at e
    cases e
    exact hm
  | q :: ps, a :: as, m, m', hq, e, hm => by
    rw [mo_step] at e
    obtain ⟨i, ei, e⟩ := some_bind e
    have r := (h.res hX (hq q (by simp)) ei).1
    refine mo_mod h hX ps as _ m' (fun q h => hq q (by simp [h])) e ?_
    split
    · rw [Int.add_emod, r, ← Int.add_emod, Int.sub_add_cancel]
    · exact hm
theorem ag_ex {X : Wd} {t : Tb} {p : Int} {kp : Str} {h : Nat} {ow : Int} : ∀ (ps : List Pt) (as : List Int) (j : Nat) (m0 m1 m : Int), InW as ps → (∀ a ∈ as, leK kp a ow) → mo X t p ps as m0 = some m → p ≤ m1 → m1 ≤ m0 → (∀ a, j ≤ h → as[h - j]? = some a → a = ow) → ∃ bs m', agesB kp h ow j (ps.map (opts X t p)) = some bs ∧ mo X t p ps bs m1 = some m' ∧ m' ≤ m ∧ (∀ b ∈ bs, leK kp b ow) ∧ bs.length = ps.length ∧ (∀ a, j ≤ h → as[h - j]? = some a → bs[h - j]? = some ow)
  | [], [], j, m0, m1, m, _, _, e, h1, h2, _ => by
    unfold mo at e
    cases e
    exact ⟨[], m1, rfl, by unfold mo; rfl, h2, (fun b hb => (nomatch hb)), rfl, (fun a _ e => (nomatch e))⟩
  | q :: ps, a :: as, j, m0, m1, m, hi, hk, e, h1, h2, hh => by
    rw [mo_step] at e
    obtain ⟨i, ei, e⟩ := some_bind e
    have ef : fstC X t q.k p a = some (if p > i + a then p else i + a) := by
      unfold fstC
      rw [ei]
      rfl
    have hm : ((if p > i + a then p else i + a), a) ∈ (opts X t p q).filter (bes kp ow) := List.mem_filter.mpr ⟨opts_mem.mpr ⟨hi.1, ef⟩, bes_iff.mpr (hk a (by simp))⟩
    obtain ⟨mm, em, lm⟩ := least_le hm
    have lm : mm.1 ≤ (if p > i + a then p else i + a) := lm
    have mi := List.mem_filter.mp (least_mem em)
    have mo1 := opts_mem.mp mi.1
    have mk := bes_iff.mp mi.2
    -- the age that is told here
    obtain ⟨b, eb, eg, lb, kb⟩ : ∃ b, b = (if j = h then ow else mm.2) ∧ (∃ i', cl X t q.k (p - b) b = some i' ∧ i' + b ≤ (if p > i + a then p else i + a)) ∧ leK kp b ow ∧ (j = h → b = ow) := by
      by_cases ej : j = h
      · have ea : a = ow := hh a (by omega) (by rw [ej, Nat.sub_self]; rfl)
        refine ⟨_, rfl, ?_, ?_, fun _ => if_pos ej⟩
        · rw [if_pos ej, ← ea]
          exact ⟨i, ei, by split <;> omega⟩
        · rw [if_pos ej, ← ea]
          have := hk a (by simp)
          rw [← ea] at this
          exact this
      · refine ⟨_, rfl, ?_, ?_, fun z => absurd z ej⟩
        · rw [if_neg ej]
          have e2 := mo1.2
          unfold fstC at e2
          obtain ⟨i', ei', e3⟩ := some_map e2
          refine ⟨i', ei', ?_⟩
          split at e3 <;> omega
        · rw [if_neg ej]
          exact mk
    obtain ⟨i', ei', li'⟩ := eg
    obtain ⟨bs, m', e1, e2, e3, e4, e5, e6⟩ := ag_ex ps as (j + 1) (if i + a > m0 then i + a else m0) (if i' + b > m1 then i' + b else m1) m hi.2 (fun a h => hk a (by simp [h])) e (by split <;> omega) (by split <;> split <;> split at li' <;> omega) (fun (a' : Int) (h1 : j + 1 ≤ h) (h2 : as[h - (j + 1)]? = some a') => hh a' (by omega) (by rw [show h - j = (h - (j + 1)) + 1 by omega]; exact h2))
    refine ⟨b :: bs, m', ?_, ?_, e3, fun z hz => ?_, by rw [List.length_cons, List.length_cons, e5], fun a' h1 h2 => ?_⟩
    · show (match leastP ((opts X t p q).filter (bes kp ow)) with
        | none => none
        | some m => (agesB kp h ow (j + 1) (ps.map (opts X t p))).map ((if j = h then ow else m.2) :: ·)) = _
      rw [em, e1, eb]
      rfl
    · rw [mo_step, ei']
      exact e2
    · rcases List.mem_cons.mp hz with rfl | hz
      · exact lb
      · exact e4 z hz
    · by_cases ej : j = h
      · rw [ej, Nat.sub_self]
        show some b = some ow
        rw [kb ej]
      · rw [show h - j = (h - (j + 1)) + 1 by omega] at h2 ⊢
        exact e6 a' (by omega) h2
  | [], _ :: _, _, _, _, _, hi, _, _, _, _, _ => hi.elim
  | _ :: _, [], _, _, _, _, hi, _, _, _, _, _ => hi.elim
theorem own_le {y : Wy} {as : List Int} {ow : Int} (h : ownO y as = some ow) : ∀ a ∈ as, leK y.kp a ow := by
  have fm : ∀ (as : List Int) (x : Int), ∀ a ∈ x :: as, a ≤ as.foldl (fun a b => if b > a then b else a) x := by
    intro as
    induction as with
    | nil => intro x a ha; rw [List.mem_singleton.mp ha]; exact Int.le_refl _
    | cons c as ih =>
      intro x a ha
      show a ≤ as.foldl _ (if c > x then c else x)
      have h0 := ih (if c > x then c else x) _ List.mem_cons_self
      rcases List.mem_cons.mp ha with rfl | ha
      · refine Int.le_trans ?_ h0
        split <;> omega
      · rcases List.mem_cons.mp ha with rfl | ha
        · refine Int.le_trans ?_ h0
          split <;> omega
        · exact ih _ a (List.mem_cons_of_mem _ ha)
  have fl : ∀ (as : List Int) (x : Int), ∀ a ∈ x :: as, as.foldl (fun a b => if b < a then b else a) x ≤ a := by
    intro as
    induction as with
    | nil => intro x a ha; rw [List.mem_singleton.mp ha]; exact Int.le_refl _
    | cons c as ih =>
      intro x a ha
      show as.foldl _ (if c < x then c else x) ≤ a
      have h0 := ih (if c < x then c else x) _ List.mem_cons_self
      rcases List.mem_cons.mp ha with rfl | ha
      · refine Int.le_trans h0 ?_
        split <;> omega
      · rcases List.mem_cons.mp ha with rfl | ha
        · refine Int.le_trans h0 ?_
          split <;> omega
        · exact ih _ a (List.mem_cons_of_mem _ ha)
  intro a ha
  unfold ownO at h
  unfold leK
  cases as with
  | nil => cases ha
  | cons x as =>
    split at h
    · rename_i hk
      rw [if_pos hk]
      have h : some (as.foldl (fun a b => if b > a then b else a) x) = some ow := h
      cases h
      exact fm as x a ha
    · rename_i hk
      rw [if_neg hk]
      have h : some (as.foldl (fun a b => if b < a then b else a) x) = some ow := h
      cases h
      exact fl as x a ha
theorem own_of {y : Wy} {bs : List Int} {ow : Int} (hm : ow ∈ bs) (hl : ∀ b ∈ bs, leK y.kp b ow) : ownO y bs = some ow := by
  unfold leK at hl
  unfold ownO
  cases bs with
  | nil => cases hm
  | cons x bs =>
    split
    · rename_i hk
      exact congrArg some (foldl_most bs x ow hm fun b hb => by have := hl b hb; rwa [if_pos hk] at this)
    · rename_i hk
      exact congrArg some (foldl_least bs x ow hm fun b hb => by have := hl b hb; rwa [if_neg hk] at this)
theorem lka_all {B : Int} {X : Wd} {t : Tb} (h : TbG B X t) (hX : X.ok) {y : Wy} (hy : y ∈ X.ws) {p : Int} {as : List Int} (hi : InW as y.ps) (hl : mdL X t y p as = true) : lkA X t y p ≠ none := by
  have yo := hX.ws y hy
  have hq : ∀ q ∈ y.ps, q.k ∈ X.ks := fun q hq => (yo.ps q hq).k
  unfold mdL at hl
  cases em : mo X t p y.ps as p with
  | none => rw [em] at hl; cases hl
  | some m =>
    cases eo : ownO y as with
    | none => rw [em, eo] at hl; cases hl
    | some ow =>
      rw [em, eo] at hl
      have hl : (!hasC X t y.k (m - ow) (ow + y.w)) = true := hl
      obtain ⟨hx, ehx⟩ := List.getElem?_of_mem (own_mem eo)
      obtain ⟨bs, m', e1, e2, e3, e4, e5, e6⟩ := ag_ex (X := X) (t := t) (p := p) (kp := y.kp) (h := hx) (ow := ow) y.ps as 0 p p m hi (own_le eo) em (Int.le_refl _) (Int.le_refl _) (fun a _ ha => by
        rw [Nat.sub_zero, ehx] at ha
        injection ha with ha
        exact ha.symm)
      have eb : bs[hx]? = some ow := by
        have := e6 ow (Nat.zero_le _) (by rw [Nat.sub_zero]; exact ehx)
        rwa [Nat.sub_zero] at this
      have obs := own_of (y := y) (List.mem_of_getElem? eb) e4
      have md : mdL X t y p bs = true := by
        unfold mdL
        rw [e2, obs]
        show (!hasC X t y.k (m' - ow) (ow + y.w)) = true
        have r1 := mo_mod h hX y.ps as p m hq em rfl
        have r2 := mo_mod h hX y.ps bs p m' hq e2 rfl
        have r3 : (m' - ow) % X.n = (m - ow) % X.n := by rw [Int.sub_emod, r2, ← r1, ← Int.sub_emod]
        unfold hasC at hl ⊢
        rw [cl_mod (a := ow + y.w) r3]
        cases hc : cl X t y.k (m - ow) (ow + y.w) with
        | none => rfl
        | some c =>
          rw [hc] at hl
          have hl : (!decide (c ≤ m - ow)) = true := hl
          show (!decide (c ≤ m' - ow)) = true
          simp only [Bool.not_eq_true', decide_eq_false_iff_not] at hl ⊢
          omega
      have al := hi.len
      have hxl := (List.getElem?_eq_some_iff.mp ehx).1
      obtain ⟨q, eq⟩ : ∃ q, y.ps[hx]? = some q := ⟨_, List.getElem?_eq_getElem (by omega)⟩
      -- the handing part's own option
      have win1 : ∀ (as : List Int) (ps : List Pt) (i : Nat) (a : Int) (q : Pt) (m0 : Int) (m : Int), InW as ps → as[i]? = some a → ps[i]? = some q → mo X t p ps as m0 = some m → (q.l ≤ a ∧ a ≤ q.g) ∧ ∃ f, fstC X t q.k p a = some f := by
        intro as
        induction as with
        | nil => intro ps i a q m0 m _ e; exact nomatch e
        | cons a as ih =>
          intro ps i a' q m0 m hi e1 e2 e3
          cases ps with
          | nil => exact hi.elim
          | cons q' ps =>
            rw [mo_step] at e3
            obtain ⟨z, ez, e3⟩ := some_bind e3
            cases i with
            | zero =>
              cases e1
              cases e2
              exact ⟨hi.1, _, by unfold fstC; rw [ez]; rfl⟩
            | succ i => exact ih ps i a' q _ m hi.2 e1 e2 e3
      obtain ⟨hw, f, hf⟩ := win1 as y.ps hx ow q p m hi ehx eq em
      intro hn
      unfold lkA at hn
      have h1 := List.findSome?_eq_none_iff.mp hn (hx, opts X t p q) (by
        have := en_mem (j := 0) (xs := y.ps.map (opts X t p)) (i := hx) (x := opts X t p q) (by rw [List.getElem?_map, eq]; rfl)
        rwa [Nat.zero_add] at this)
      have h2 := List.findSome?_eq_none_iff.mp h1 (f, ow) (opts_mem.mpr ⟨hw, hf⟩)
      unfold tryA at h2
      rw [show agesB y.kp hx ow 0 (y.ps.map (opts X t p)) = some bs from e1] at h2
      have h2 : (if mdL X t y p bs = true then some bs else none) = none := h2
      rw [if_pos md] at h2
      cases h2
theorem lka_is {X : Wd} {t : Tb} {y : Wy} {p : Int} {as : List Int} (h : lkA X t y p = some as) : InW as y.ps ∧ mdL X t y p as = true := by
  unfold lkA at h
  obtain ⟨z, hz, h⟩ := List.exists_of_findSome?_eq_some h
  obtain ⟨r, hr, h⟩ := List.exists_of_findSome?_eq_some h
  unfold tryA at h
  obtain ⟨bs, eb, h⟩ := some_bind h
  have hi := try_in (j := z.1) (rs := z.2) hz hr eb
  split at h
  · rename_i hm
    cases h
    exact ⟨hi, hm⟩
  · cases h
end Dl
namespace Dl
open PySem PySem.Spec PyProof.Rows L2 Rt
def brT (X : Wd) (t : Tb) : Option Nat := (en 0 X.ss).findSome? fun z => if brL X t z.2 = true then some z.1 else none
def mkT (X : Wd) (t : Tb) : Option (Nat × Int × List Int) := (en 0 X.ws).findSome? fun z => z.2.hs.findSome? fun p => (lkA X t z.2 p).map fun as => (z.1, p, as)
def brQ (j : Nat) : D := .tuple [S "brought", .int (j : Nat)]
def mkQ (q : Nat × Int × List Int) : D := .tuple [S "made", .int (q.1 : Nat), .int q.2.1, agD q.2.2]
def lekO (X : Wd) (t : Tb) : Option D := match brT X t with
  | some j => some (brQ j)
  | none => (mkT X t).map mkQ
def SLeak : Sem (Wd × Tb) where
  enc := fun (X, t) => [X.d, tbD t]
  ok := fun (X, t) => X.ok ∧ tbOk X t
  out := fun (X, t) => (lekO X t).getD .none
  fn := fun {a b} _ _ e => by
    obtain ⟨X, t⟩ := a
    obtain ⟨X', t'⟩ := b
    injection e with e1 e
    injection e with e2 e
    cases Wd.inj e1
    cases tbD.inj e2
    rfl
/-- all the leaks: what is told of each, and the thing -/
def lkB1 (X : Wd) (t : Tb) : List (D × D) := (en 0 X.ss).filterMap fun z => if brL X t z.2 = true then some (brQ z.1, thD (some (z.2.k, z.2.s + (z.2.p - z.2.s) % X.n - z.2.a, z.2.a))) else none
def lkB2 (X : Wd) (t : Tb) : List (D × D) := (en 0 X.ws).flatMap fun z => z.2.hs.flatMap fun p => (chs z.2.ps).filterMap fun as => if mdL X t z.2 p as = true then some (mkQ (z.1, p, as), thD (mdT X t z.2 p as)) else none
def lks (X : Wd) (t : Tb) : List (D × D) := lkB1 X t ++ lkB2 X t
theorem lek_in {X : Wd} {t : Tb} {d : D} (h : lekO X t = some d) : ∃ e, (d, e) ∈ lks X t := by
  unfold lekO at h
  unfold lks
  cases eb : brT X t with
  | some j =>
    rw [eb] at h
    cases h
    obtain ⟨z, hz, e⟩ := List.exists_of_findSome?_eq_some eb
    split at e
    · rename_i hb
      cases e
      exact ⟨_, List.mem_append_left _ (List.mem_filterMap.mpr ⟨z, hz, by rw [if_pos hb]⟩)⟩
    · cases e
  | none =>
    rw [eb] at h
    obtain ⟨q, eq, rfl⟩ := some_map h
    obtain ⟨z, hz, e⟩ := List.exists_of_findSome?_eq_some eq
    obtain ⟨p, hp, e⟩ := List.exists_of_findSome?_eq_some e
    obtain ⟨as, ea, rfl⟩ := some_map e
    obtain ⟨hi, hm⟩ := lka_is ea
    exact ⟨_, List.mem_append_right _ (List.mem_flatMap.mpr ⟨z, hz, List.mem_flatMap.mpr ⟨p, hp, List.mem_filterMap.mpr ⟨as, chs_mem.mpr hi, by rw [if_pos hm]⟩⟩⟩)⟩
theorem lek_no {B : Int} {X : Wd} {t : Tb} (g : TbG B X t) (hX : X.ok) (h : lekO X t = none) : lks X t = [] := by
  unfold lekO at h
  cases eb : brT X t with
  | some j => rw [eb] at h; cases h
  | none =>
    rw [eb] at h
    have hm : mkT X t = none := by
      cases e : mkT X t with
      | none => rfl
      | some q => rw [e] at h; cases h
    have b1 : lkB1 X t = [] := List.filterMap_eq_nil_iff.mpr fun z hz => by
      have := List.findSome?_eq_none_iff.mp eb z hz
      split at this
      · cases this
      · rename_i hb
        rw [if_neg hb]
    have b2 : lkB2 X t = [] := List.flatMap_eq_nil_iff.mpr fun z hz => List.flatMap_eq_nil_iff.mpr fun p hp => List.filterMap_eq_nil_iff.mpr fun as ha => by
      have h1 := List.findSome?_eq_none_iff.mp (List.findSome?_eq_none_iff.mp hm z hz) p hp
      have h2 : lkA X t z.2 p = none := by
        cases e : lkA X t z.2 p with
        | none => rfl
        | some q => rw [e] at h1; cases h1
      have hw : z.2 ∈ X.ws := List.mem_of_getElem? (en_get (i := z.1) (x := z.2) hz).2
      rw [if_neg]
      intro hl
      exact lka_all g hX hw (chs_mem.mp ha) hl h2
    unfold lks
    rw [b1, b2]
    rfl
def pq (z : D × D) : D := .tuple [z.1, z.2]
def SLks : Sem (Wd × Tb) where
  enc := fun (X, t) => [X.d, tbD t]
  ok := fun (X, t) => X.ok ∧ ∃ B, TbG B X t ∧ 0 ≤ B ∧ B ≤ 3000000000000000
  out := fun (X, t) => .list ((lks X t).map pq)
  fn := fun {a b} _ _ e => by
    obtain ⟨X, t⟩ := a
    obtain ⟨X', t'⟩ := b
    injection e with e1 e
    injection e with e2 e
    cases Wd.inj e1
    cases tbD.inj e2
    rfl
section
variable {P : Program} {w : World} {K : PySem.W.Frag} {mg : Str → Option Value} {base : Heap}
theorem ok_lek {f : Addr} {fd : FuncData} (F : Fun K "leak" "leak" s_leak f fd) (m_range : mg "range" = none) (m_len : mg "len" = none) (m_enumerate : mg "enumerate" = none) (C_is_brought_leak : Cl P w K mg base 3 "is_brought_leak" ["world", "table", "source"] (spD 3 SBrL.f)) (C_leaking_ages : Cl P w K mg base 4 "leaking_ages" ["world", "table", "way", "place"] (spD 4 SLka.f)) : FnOk P w K mg base CX0 5 f fd ["world", "table"] (spD 2 SLeak.f) := by
  refine okFn F sc_leak rfl fun cdv A outer s H E hr => ⟨_, (dSs_cons (dS_for (K := K) (p := (.nm 2)) (ps_for PassesOwn.never rfl (dI_ran1 (by rfl) m_range (dA_cons (dE_callB c_len (by rfl) m_len (by decide +kernel) (dA_cons (dE_ix (dE_var (μ := true) (pv 0)) (dE_c (μ := true) pe_int)) (dA_nil (μ := true)))) (dA_nil (μ := true)))) (pg_name (i := 2) sc_leak.nd rfl (.inl rfl))
    (dSs_one (dS_if (dT_val (dE_cl C_is_brought_leak (hr.mono (by omega)) (by rfl) (dA_cons (dE_var (μ := true) (pv 0)) (dA_cons (dE_var (μ := true) (pv 1)) (dA_cons (dE_var (μ := true) (pv 2)) (dA_nil (μ := true)))))))
    (dSs_one (dS_ret (ps_ret (dE_tup (dA_cons (dE_c (μ := true) pe_str) (dA_cons (dE_var (μ := true) (pv 2)) (dA_nil (μ := true))))))))
    dSs_nil))))
  (dSs_cons (dS_for (K := K) (p := (.tp (.cons (.nm 3) (.cons (.nm 4) .nil)))) (ps_for PassesOwn.never rfl (dI_enum (by rfl) m_enumerate (dA_cons (dE_ix (dE_var (μ := true) (pv 0)) (dE_c (μ := true) pe_int)) (dA_nil (μ := true)))) (pg_tup (by rfl) (pgs_cons (pg_name (i := 3) sc_leak.nd rfl (.inl rfl)) (pgs_cons (pg_name (i := 4) sc_leak.nd rfl (.inl rfl)) pgs_nil)))
    (dSs_one (dS_for (K := K) (p := (.nm 5)) (ps_for PassesOwn.never rfl (dI_seq (dE_ix (dE_var (μ := true) (pv 4)) (dE_c (μ := true) pe_int))) (pg_name (i := 5) sc_leak.nd rfl (.inl rfl))
    (dSs_cons (dS_asg (K := K) (p := .nm 6) (ps_set (i := 6) sc_leak.nd rfl (.inl rfl) (dE_cl C_leaking_ages (hr.mono (by omega)) (by rfl) (dA_cons (dE_var (μ := true) (pv 0)) (dA_cons (dE_var (μ := true) (pv 1)) (dA_cons (dE_var (μ := true) (pv 3)) (dA_cons (dE_var (μ := true) (pv 5)) (dA_nil (μ := true)))))))))
  (dSs_one (dS_if (dT_cmp o_isnot (dE_var (μ := true) (pv 6)) (dE_c (μ := true) pe_non) (nomark _))
    (dSs_one (dS_ret (ps_ret (dE_tup (dA_cons (dE_c (μ := true) pe_str) (dA_cons (dE_var (μ := true) (pv 3)) (dA_cons (dE_var (μ := true) (pv 5)) (dA_cons (dE_var (μ := true) (pv 6)) (dA_nil (μ := true))))))))))
    dSs_nil))))))))
  (dSs_one (dS_ret (ps_ret (dE_c (μ := true) pe_non)))))), fun ds d l e => ?_⟩
  obtain ⟨⟨X, t⟩, ⟨hX, ht⟩, rfl, rfl⟩ := Sem.get e
  refine ⟨.rt ((lekO X t).getD .none), ?_, rfl⟩
  have sl := hX.sl
  let R : Option LV → Option LV → Option LV → Option LV → Option LV → Rho := fun a b c d e => [some (.dat X.d), some (.dat (tbD t)), a, b, c, d, e]
  have r1 := ran1_ok (j := (X.ss.length : Int)) (by omega) (by omega)
  rw [show ((X.ss.length : Int)).toNat = X.ss.length by omega, show (0 : Int) = ((0 : Nat) : Int) from rfl, en_rg] at r1
  have eit : itG ran1D (aCons (eCall lenD (aCons (e2 ixD (eVar 0) (eC (.int 2))) aNil)) aNil) (R none none none none none) = some ((en 0 X.ss).map fun z => .int (z.1 : Nat)) := by
    have ml : (X.ss.map Sr.d).length = X.ss.length := List.length_map ..
    have el : eCall lenD (aCons (e2 ixD (eVar 0) (eC (.int 2))) aNil) (R none none none none none) = some (.int (X.ss.length : Int)) := by
      rw [← ml]
      rfl
    exact ev_itG (ds := [.int (X.ss.length : Int)]) (ev_cons el rfl) r1
  have f1 := forG_find (p := .nm 2) (e := fun z : Nat × Sr => .int (z.1 : Nat)) (f := brQ) (G := fun z => if brL X t z.2 = true then some z.1 else none) (body := sIf (oB (eCall (gN 3 SBrL.f) (aCons (eVar 0) (aCons (eVar 1) (aCons (eVar 2) aNil))))) (sRet (eTup (aCons (eC (S "brought")) (aCons (eVar 2) aNil)))) sNil) (fun ρ => ∃ a, ρ = R a none none none none) (en 0 X.ss) (R none none none none none) ⟨_, rfl⟩ (fun z hz ρ i => by
    obtain ⟨a, rfl⟩ := i
    obtain ⟨j, r⟩ := z
    refine ⟨R (some (.dat (.int (j : Nat)))) none none none none, rfl, ?_⟩
    obtain ⟨_, hj⟩ := en_get hz
    rw [Nat.sub_zero] at hj
    have ec : oB (eCall (gN 3 SBrL.f) (aCons (eVar 0) (aCons (eVar 1) (aCons (eVar 2) aNil)))) (R (some (.dat (.int (j : Nat)))) none none none none) = some (brL X t r) := ev_oB (ev_call (ds := [X.d, tbD t, .int (j : Nat)]) rfl rfl (Sem.of (S := SBrL) (x := (X, t, j, r)) ⟨hX, ht, hj⟩))
    unfold sIf
    rw [ec]
    show (∃ d, (if brL X t r = true then some j else none) = some d ∧ _) ∨ ((if brL X t r = true then some j else none) = none ∧ _)
    cases brL X t r with
    | true => exact .inl ⟨j, rfl, rfl⟩
    | false => exact .inr ⟨rfl, _, rfl, _, rfl⟩)
  unfold lekO
  rcases f1 with ⟨j, q1, q2⟩ | ⟨q1, ρ', q2, a, rfl⟩
  · rw [show brT X t = some j from q1]
    exact ev_seqR (ev_forS eit q2)
  rw [show brT X t = none from q1]
  refine (ev_seq (ev_forS eit q2)).trans ?_
  have f2 := forG_find (p := Pat.tp (Pats.cons (Pat.nm 3) (Pats.cons (Pat.nm 4) Pats.nil))) (e := fun z : Nat × Wy => .tuple [.int (z.1 : Nat), z.2.d]) (f := mkQ) (G := fun z => z.2.hs.findSome? fun p => (lkA X t z.2 p).map fun as => (z.1, p, as)) (body := sFor (itSeq (e2 ixD (eVar 4) (eC (.int 3)))) (.nm 5) (sSeq (sAsg (.nm 6) (eCall (gN 4 SLka.f) (aCons (eVar 0) (aCons (eVar 1) (aCons (eVar 3) (aCons (eVar 5) aNil)))))) (sIf (oB (e2 noND (eVar 6) (eC .none))) (sRet (eTup (aCons (eC (S "made")) (aCons (eVar 3) (aCons (eVar 5) (aCons (eVar 6) aNil)))))) sNil))) (fun ρ => ∃ b c d e, ρ = R a b c d e) (en 0 X.ws) (R a none none none none) ⟨_, _, _, _, rfl⟩ (fun z hz ρ i => by
    obtain ⟨b, c, d, e, rfl⟩ := i
    obtain ⟨j, y⟩ := z
    refine ⟨R a (some (.dat (.int (j : Nat)))) (some (.dat y.d)) d e, rfl, ?_⟩
    obtain ⟨_, hj⟩ := en_get hz
    rw [Nat.sub_zero] at hj
    have inner := forG_find (p := .nm 5) (e := PyData.int) (f := mkQ) (G := fun p => (lkA X t y p).map fun as => (j, p, as)) (body := sSeq (sAsg (.nm 6) (eCall (gN 4 SLka.f) (aCons (eVar 0) (aCons (eVar 1) (aCons (eVar 3) (aCons (eVar 5) aNil)))))) (sIf (oB (e2 noND (eVar 6) (eC .none))) (sRet (eTup (aCons (eC (S "made")) (aCons (eVar 3) (aCons (eVar 5) (aCons (eVar 6) aNil)))))) sNil)) (fun ρ => ∃ d e, ρ = R a (some (.dat (.int (j : Nat)))) (some (.dat y.d)) d e) y.hs (R a (some (.dat (.int (j : Nat)))) (some (.dat y.d)) d e) ⟨_, _, rfl⟩ (fun p hp ρ i => by
      obtain ⟨d, e, rfl⟩ := i
      refine ⟨R a (some (.dat (.int (j : Nat)))) (some (.dat y.d)) (some (.dat (.int p))) e, rfl, ?_⟩
      have ea : eCall (gN 4 SLka.f) (aCons (eVar 0) (aCons (eVar 1) (aCons (eVar 3) (aCons (eVar 5) aNil)))) (R a (some (.dat (.int (j : Nat)))) (some (.dat y.d)) (some (.dat (.int p))) e) = some (oaD (lkA X t y p)) := ev_call (ds := [X.d, tbD t, .int (j : Nat), .int p]) rfl rfl (Sem.of (S := SLka) (x := (X, t, j, y, p)) ⟨hX, ht, hj⟩)
      have es := fun g => ev_asg (p := .nm 6) (g := g) (ρ' := R a (some (.dat (.int (j : Nat)))) (some (.dat y.d)) (some (.dat (.int p))) (some (.dat (oaD (lkA X t y p))))) ea rfl
      rw [es]
      cases lkA X t y p with
      | none => exact .inr ⟨rfl, _, rfl, _, _, rfl⟩
      | some as => exact .inl ⟨(j, p, as), rfl, rfl⟩)
    rcases inner with ⟨d, e1, e2⟩ | ⟨e1, ρ', e2, d', e', rfl⟩
    · exact .inl ⟨d, e1, ev_forS (items := y.hs.map .int) rfl e2⟩
    · exact .inr ⟨e1, _, ev_forS (items := y.hs.map .int) rfl e2, _, _, _, _, rfl⟩)
  rw [← en_go] at f2
  rcases f2 with ⟨q, e1, e2⟩ | ⟨e1, ρ', e2, _, _, _, _, rfl⟩
  · rw [show mkT X t = some q from e1]
    exact ev_seqR (ev_forS (items := enGo 0 (X.ws.map Wy.d)) rfl e2)
  · rw [show mkT X t = none from e1]
    exact (ev_seq (ev_forS (items := enGo 0 (X.ws.map Wy.d)) rfl e2)).trans rfl
end
end Dl
namespace Dl
open PySem PySem.Spec PyProof.Rows L2 Rt
/-! ### tables -/
def cellOk (n pl : Int) : D → Bool
  | .none => true
  | .int i => isFrom (-20) 3000000000000000 (.int i) && (i % n == pl)
  | _ => false
def noI : D → Bool
  | .none => true
  | .int _ => true
  | _ => false
def abv : D → D → Bool
  | .none, .none => false
  | .none, _ => true
  | .int a, .int b => decide (a > b)
  | _, _ => false
def nr (ds : List D) : Bool := !((ds.zip (ds.drop 1)).any fun p => abv p.2 p.1)
def ageOk (n pl : Int) : D → Bool
  | .tuple ds => isRow 27 27 (.tuple ds) && (ds.all (cellOk n pl) && nr ds)
  | _ => false
def enAll (n : Int) : Nat → List D → List Bool
  | _, [] => []
  | k, x :: xs => ageOk n k x :: enAll n (k + 1) xs
def rowB (n : Int) : D → List Bool
  | .tuple rs => enAll n 0 rs
  | _ => []
def tabOk (n : Int) (m : Nat) : D → Bool
  | .tuple ds => isRow m m (.tuple ds) && (ds.all (isRow n n) && (ds.map (rowB n)).flatten.all id)
  | _ => false
def sAbv : List D → Option D
  | [a, b] => if (noI a && noI b) = true then some (.bool (abv a b)) else none
  | _ => none
def sCell : List D → Option D
  | [.tuple (.int n :: _), .int pl, d] => if 0 < n then some (.bool (cellOk n pl d)) else none
  | _ => none
def sAge : List D → Option D
  | [.tuple (.int n :: _), .int pl, d] => if 0 < n then some (.bool (ageOk n pl d)) else none
  | _ => none
def sTab : List D → Option D
  | [.tuple [.int n, .tuple ks, _, _], d] => if 0 < n ∧ n ≤ 6 ∧ ks.length ≤ 4 then some (.bool (tabOk n ks.length d)) else none
  | _ => none
theorem cut1 {α : Type} (xs : List α) : cutD xs (some 1) none = xs.drop 1 := by
  unfold cutD
  rw [HT.sIx_none, show (some (1 : Int)) = some ((1 : Nat) : Int) from rfl, HT.sIx_nat]
  cases xs with
  | nil => rfl
  | cons x r =>
    rw [show min 1 (x :: r).length = 1 by simp]
    exact List.take_of_length_le (by simp)
theorem ev_lcP {i j : Nat} {f : EF} {ρ : Rho} {t : D → D → D} (hi : i < ρ.length) (hj : j < ρ.length) : ∀ (xs : List (D × D)), (∀ x ∈ xs, f ((ρ.set i (some (.dat x.1))).set j (some (.dat x.2))) = some (t x.1 x.2)) → lcGo (.tp (.cons (.nm i) (.cons (.nm j) .nil))) oYes f ρ (xs.map fun x => .tuple [x.1, x.2]) = some (xs.map fun x => t x.1 x.2)
  | [], _ => rfl
  | x :: xs, h => by
    have e1 : bindP (.tp (.cons (.nm i) (.cons (.nm j) .nil))) (.tuple [x.1, x.2]) ρ = some ((ρ.set i (some (.dat x.1))).set j (some (.dat x.2))) := by
      show (bindP (.nm i) x.1 ρ).bind _ = _
      unfold bindP
      rw [if_pos hi]
      show (bindP (.nm j) x.2 _).bind _ = _
      unfold bindP
      rw [if_pos (by rw [List.length_set]; exact hj)]
      rfl
    show (bindP _ (.tuple [x.1, x.2]) ρ).bind _ = _
    rw [e1]
    show (f _).bind _ = _
    rw [h x (by simp)]
    show (lcGo _ _ _ _ _).map _ = _
    rw [ev_lcP hi hj xs fun y hy => h y (by simp [hy])]
    rfl
theorem zp_zip : ∀ (as bs : List D), zpGo as bs = (as.zip bs).map fun x => .tuple [x.1, x.2]
  | [], bs => by cases bs <;> rfl
  | a :: as, [] => rfl
  | a :: as, b :: bs => by
    show PyData.tuple [a, b] :: zpGo as bs = _
    rw [zp_zip as bs]
    rfl
theorem isRow_tup {a b : Int} {d : D} (h : isRow a b d = true) : ∃ xs, d = .tuple xs := by
  cases d <;> first | exact ⟨_, rfl⟩ | cases h
theorem cell_noI {n pl : Int} {d : D} (h : cellOk n pl d = true) : noI d = true := by
  cases d <;> first | rfl | (cases h; done)
section
variable {P : Program} {w : World} {K : PySem.W.Frag} {mg : Str → Option Value} {base : Heap}
theorem ok_above {f : Addr} {fd : FuncData} (F : Fun K "is_above" "is_above" s_is_above f fd) : FnOk P w K mg base CX0 1 f fd ["one", "other"] (spD 2 sAbv) := by
  refine okFn F sc_is_above rfl fun cdv A outer s H E hr => ⟨_, (dSs_cons (dS_if (PW.pt (dW_or (dT_cmp o_is (dE_var (μ := true) (pv 0)) (dE_c (μ := true) pe_non) (nomark _)) (dW_or1 (dT_cmp o_is (dE_var (μ := true) (pv 1)) (dE_c (μ := true) pe_non) (nomark _)))))
    (dSs_one (dS_ret (ps_ret (dE_and (dE_cmp o_is (dE_var (μ := true) (pv 0)) (dE_c (μ := true) pe_non) (nomark _)) (dE_one (dE_cmp o_isnot (dE_var (μ := true) (pv 1)) (dE_c (μ := true) pe_non) (nomark _)))))))
    dSs_nil)
  (dSs_one (dS_ret (ps_ret (dE_cmp o_gt (dE_var (μ := true) (pv 0)) (dE_var (μ := true) (pv 1)) (nomark _)))))), fun ds d l e => ?_⟩
  match ds, e with
  | [a, b], e =>
    obtain ⟨h, rfl⟩ := iteS e
    refine ⟨.rt (.bool (abv a b)), ?_, rfl⟩
    have h := Bool.and_eq_true_iff.mp h
    cases a <;> (first | (cases h.1; done) | skip) <;> cases b <;> first | (cases h.2; done) | rfl
theorem ok_cell {f : Addr} {fd : FuncData} {t1 t2 : Tok} (F : Fun K "is_cell" "is_cell" s_is_cell f fd) (g_OLD : mg "OLD" = some (.int 20 t1)) (g_LAST : mg "LAST" = some (.int 3000000000000000 t2)) (C_is_number_from : Cl P w K mg base 2 "is_number_from" ["thing", "low", "high"] (spD 3 sFrom)) (C_place_of : Cl P w K mg base 1 "place_of" ["world", "number"] (spD 2 sPlace)) : FnOk P w K mg base CX0 3 f fd ["world", "place", "cell"] (spD 3 sCell) := by
  refine okFn F sc_is_cell rfl fun cdv A outer s H E hr => ⟨_, (dSs_one (dS_ret (ps_ret (dE_or (dE_cmp o_is (dE_var (μ := true) (pv 2)) (dE_c (μ := true) pe_non) (nomark _)) (dE_one (dE_and (dE_cl C_is_number_from (hr.mono (by omega)) (by rfl) (dA_cons (dE_var (μ := true) (pv 2)) (dA_cons (dE_neg (dE_c (μ := true) (pe_glob (v := .int 20) (by rfl) g_OLD ⟨_, rfl⟩))) (dA_cons (dE_c (μ := true) (pe_glob (v := .int 3000000000000000) (by rfl) g_LAST ⟨_, rfl⟩)) (dA_nil (μ := true)))))) (dE_one (dE_cmp (o_eq hr.units) (dE_cl C_place_of (hr.mono (by omega)) (by rfl) (dA_cons (dE_var (μ := true) (pv 0)) (dA_cons (dE_var (μ := true) (pv 2)) (dA_nil (μ := true))))) (dE_var (μ := true) (pv 1)) (nomark _))))))))), fun ds d l e => ?_⟩
  match ds, e with
  | [.tuple (.int n :: r), .int pl, x], e =>
    obtain ⟨h, rfl⟩ := iteS e
    refine ⟨.rt (.bool (cellOk n pl x)), ?_, rfl⟩
    cases x with
    | none => rfl
    | int i =>
      have hp : sPlace [.tuple (.int n :: r), .int i] = some (.int (i % n)) := if_pos h
      refine ev_ret ?_
      refine Eq.trans (b := eAnd (eCall (gN 3 sFrom) (aCons (eVar 2) (aCons (e1 negD (eC (.int 20))) (aCons (eC (.int 3000000000000000)) aNil)))) (e2 eqD (eCall (gN 2 sPlace) (aCons (eVar 0) (aCons (eVar 2) aNil))) (eVar 1)) [some (.dat (.tuple (.int n :: r))), some (.dat (.int pl)), some (.dat (.int i))]) rfl ?_
      refine ev_and (b := isFrom (-20) 3000000000000000 (.int i)) rfl (fun h1 => ?_) (fun h1 => by show PyData.bool (isFrom (-20) 3000000000000000 (.int i) && _) = _; rw [h1]; rfl)
      refine ev_e2 (a := .int (i % n)) (b := .int pl) (ev_call rfl rfl hp) rfl ?_
      show some (PyData.bool (i % n == pl)) = some (.bool (isFrom (-20) 3000000000000000 (.int i) && _))
      rw [h1]
      rfl
    | bool b => rfl
    | str z => rfl
    | tuple z => rfl
    | list z => rfl
    | dict z => rfl
theorem ok_age {f : Addr} {fd : FuncData} {t1 : Tok} (F : Fun K "is_age_row" "is_age_row" s_is_age_row f fd) (g_READY : mg "READY" = some (.int 26 t1)) (m_all : mg "all" = none) (m_any : mg "any" = none) (m_zip : mg "zip" = none)
    (C_is_row : Cl P w K mg base 1 "is_row" ["thing", "fewest", "most"] (spD 3 sRow)) (C_is_cell : Cl P w K mg base 3 "is_cell" ["world", "place", "cell"] (spD 3 sCell)) (C_is_above : Cl P w K mg base 1 "is_above" ["one", "other"] (spD 2 sAbv)) : FnOk P w K mg base CX0 4 f fd ["world", "place", "row"] (spD 3 sAge) := by
  refine okFn F sc_is_age_row rfl fun cdv A outer s H E hr => ⟨_, (dSs_cons (dS_if (dT_not (dT_val (dE_cl C_is_row (hr.mono (by omega)) (by rfl) (dA_cons (dE_var (μ := true) (pv 2)) (dA_cons (dE_op o_add (dE_c (μ := true) (pe_glob (v := .int 26) (by rfl) g_READY ⟨_, rfl⟩)) (dE_c (μ := true) pe_int)) (dA_cons (dE_op o_add (dE_c (μ := true) (pe_glob (v := .int 26) (by rfl) g_READY ⟨_, rfl⟩)) (dE_c (μ := true) pe_int)) (dA_nil (μ := true))))))))
    (dSs_one (dS_ret (ps_ret (dE_c (μ := true) pe_bl))))
    dSs_nil)
  (dSs_cons (dS_if (dT_not (dT_val (dE_callB (c_all rfl) (by rfl) m_all (by decide +kernel) (dA_cons (dE_lc (K := K) (p := (.nm 3)) (pe_lc (own := [("cell", 3)]) (g := gP K (.nm 3)) rfl sc_is_age_row.nd (dI_seq (dE_var (μ := true) (pv 2))) (blkOk_by (own := [("cell", 3)]) (N := ["world", "place", "row", "cell", "ahead", "behind"]) (sc := defScope s_is_age_row) (by decide +kernel)) (fun _ _ _ _ _ => (pg_name (i := 3) sc_is_age_row.nd rfl (.inl rfl))) (fun _ _ _ _ _ => dTs_nil) (fun _ _ _ _ _ => (dE_cl C_is_cell (hr.mono (by omega)) (by rfl) (dA_cons (dE_var (μ := true) (pv 0)) (dA_cons (dE_var (μ := true) (pv 1)) (dA_cons (dE_var (μ := true) (pv 3)) (dA_nil (μ := true))))))))) (dA_nil (μ := true))))))
    (dSs_one (dS_ret (ps_ret (dE_c (μ := true) pe_bl))))
    dSs_nil)
  (dSs_one (dS_ret (ps_ret (dE_not (dE_callB (c_any rfl) (by rfl) m_any (by decide +kernel) (dA_cons (dE_lc (K := K) (p := (.tp (.cons (.nm 4) (.cons (.nm 5) .nil)))) (pe_lc (own := [("ahead", 4), ("behind", 5)]) (g := gP K (.tp (.cons (.nm 4) (.cons (.nm 5) .nil)))) rfl sc_is_age_row.nd (dI_zip (by rfl) m_zip (dA_cons (dE_var (μ := true) (pv 2)) (dA_cons (dE_sl (dE_var (μ := true) (pv 2)) (dO_some (dE_c (μ := true) pe_int)) dO_none) (dA_nil (μ := true))))) (blkOk_by (own := [("ahead", 4), ("behind", 5)]) (N := ["world", "place", "row", "cell", "ahead", "behind"]) (sc := defScope s_is_age_row) (by decide +kernel)) (fun _ _ _ _ _ => (pg_tup (by rfl) (pgs_cons (pg_name (i := 4) sc_is_age_row.nd rfl (.inl rfl)) (pgs_cons (pg_name (i := 5) sc_is_age_row.nd rfl (.inl rfl)) pgs_nil)))) (fun _ _ _ _ _ => dTs_nil) (fun _ _ _ _ _ => (dE_cl C_is_above (hr.mono (by omega)) (by rfl) (dA_cons (dE_var (μ := true) (pv 5)) (dA_cons (dE_var (μ := true) (pv 4)) (dA_nil (μ := true)))))))) (dA_nil (μ := true)))))))))), fun ds d l e => ?_⟩
  match ds, e with
  | [.tuple (.int n :: r), .int pl, x], e =>
    obtain ⟨h, rfl⟩ := iteS e
    refine ⟨.rt (.bool (ageOk n pl x)), ?_, rfl⟩
    refine (ev_guard (b := !isRow 27 27 x) rfl rfl).trans ?_
    cases h0 : isRow 27 27 x with
    | false =>
      have : ageOk n pl x = false := by
        unfold ageOk
        split
        · rw [h0]; rfl
        · rfl
      rw [this]
      rfl
    | true =>
      obtain ⟨xs, rfl⟩ := isRow_tup h0
      have hc : ∀ c, sCell [.tuple (.int n :: r), .int pl, c] = some (.bool (cellOk n pl c)) := fun c => if_pos h
      refine (ev_guard (b := !xs.all (cellOk n pl)) (by exact ev_not (ev_oB (ev_all (xs := xs) (t := cellOk n pl) rfl (ev_lc (t := fun x => .bool (cellOk n pl x)) (by show 3 < 6; decide) xs fun x _ => ev_call rfl rfl (hc x))))) rfl).trans ?_
      cases ha : xs.all (cellOk n pl) with
      | false => simp only [ageOk, h0, ha]; rfl
      | true =>
        have hn : ∀ z ∈ xs, noI z = true := fun z hz => cell_noI (List.all_eq_true.mp ha z hz)
        have ea : ageOk n pl (.tuple xs) = nr xs := by simp only [ageOk, h0, ha, Bool.true_and]
        rw [ea]
        refine ev_ret ?_
        have an := ev_any (μ := true) (vs := [4, 5]) (it := itG zpD (aCons (eVar 2) (aCons (eSl (eVar 2) (pSome (eC (.int 1))) pNone) aNil))) (p := .tp (.cons (.nm 4) (.cons (.nm 5) .nil))) (c := oYes) (f := eCall (gN 2 sAbv) (aCons (eVar 5) (aCons (eVar 4) aNil))) (ρ := [some (.dat (.tuple (.int n :: r))), some (.dat (.int pl)), some (.dat (.tuple xs)), none, none, none]) (xs := xs.zip (xs.drop 1)) (t := fun p => abv p.2 p.1) (items := zpGo xs (xs.drop 1)) (by show some (zpGo xs (cutD xs (some 1) none)) = _; rw [cut1]) (by
          rw [zp_zip]
          refine ev_lcP (i := 4) (j := 5) (t := fun a b => .bool (abv b a)) (by show 4 < 6; decide) (by show 5 < 6; decide) _ fun z hz => ?_
          have hz := List.of_mem_zip hz
          refine ev_call rfl rfl (if_pos ?_)
          show (noI z.2 && noI z.1) = true
          rw [hn _ hz.1, hn _ (List.mem_of_mem_drop hz.2)]
          rfl)
        exact (congrArg (fun o : Option D => (o.bind bB).map fun b => PyData.bool (!b)) an).trans rfl
end
end Dl
namespace Dl
open PySem PySem.Spec PyProof.Rows L2 Rt
def mapK (t : Nat → D → D) : Nat → List D → List D
  | _, [] => []
  | k, x :: xs => t k x :: mapK t (k + 1) xs
theorem ev_lcEn {i j : Nat} {f : EF} {ρ : Rho} {t : Nat → D → D} (hi : i < ρ.length) (hj : j < ρ.length) : ∀ (xs : List D) (k : Nat), (∀ (k : Nat) x, x ∈ xs → f ((ρ.set i (some (.dat (.int k)))).set j (some (.dat x))) = some (t k x)) → lcGo (.tp (.cons (.nm i) (.cons (.nm j) .nil))) oYes f ρ (enGo k xs) = some (mapK t k xs)
  | [], _, _ => rfl
  | x :: xs, k, h => by
    have e1 : bindP (.tp (.cons (.nm i) (.cons (.nm j) .nil))) (.tuple [.int (k : Nat), x]) ρ = some ((ρ.set i (some (.dat (.int k)))).set j (some (.dat x))) := by
      show (bindP (.nm i) (.int k) ρ).bind _ = _
      unfold bindP
      rw [if_pos hi]
      show (bindP (.nm j) x _).bind _ = _
      unfold bindP
      rw [if_pos (by rw [List.length_set]; exact hj)]
      rfl
    show (bindP _ (.tuple [.int (k : Nat), x]) ρ).bind _ = _
    rw [e1]
    show (f _).bind _ = _
    rw [h k x (by simp)]
    show (lcGo _ _ _ _ _).map _ = _
    rw [ev_lcEn hi hj xs (k + 1) fun k y hy => h k y (by simp [hy])]
    rfl
theorem enAll_map (n : Int) : ∀ (xs : List D) (k : Nat), (enAll n k xs).map PyData.bool = mapK (fun k x => .bool (ageOk n k x)) k xs
  | [], _ => rfl
  | x :: xs, k => by
    show PyData.bool (ageOk n k x) :: (enAll n (k + 1) xs).map PyData.bool = _
    rw [enAll_map n xs (k + 1)]
    rfl
theorem enAll_len (n : Int) : ∀ (xs : List D) (k : Nat), (enAll n k xs).length = xs.length
  | [], _ => rfl
  | x :: xs, k => congrArg (· + 1) (enAll_len n xs (k + 1))
theorem flat_len (n : Int) (m : Nat) : ∀ (ds : List D), (∀ d ∈ ds, (rowB n d).length ≤ m) → (ds.map (rowB n)).flatten.length ≤ ds.length * m
  | [], _ => Nat.zero_le _
  | d :: ds, h => by
    have h1 := h d (by simp)
    have h2 := flat_len n m ds fun x hx => h x (by simp [hx])
    rw [List.map_cons, List.flatten_cons, List.length_append, List.length_cons, Nat.add_mul, Nat.one_mul]
    omega
theorem bools_mapB : ∀ bs : List Bool, boolsD (bs.map PyData.bool) = some bs
  | [] => rfl
  | b :: bs => by
    show (boolsD (bs.map PyData.bool)).map _ = _
    rw [bools_mapB bs]
    rfl
theorem ev_all2 {g : EF} {ρ : Rho} {bs : List Bool} (h : g ρ = some (.list (bs.map PyData.bool))) : eCall allD (aCons g aNil) ρ = some (.bool (bs.all id)) := by
  unfold eCall aCons
  rw [h]
  show (boolsD _).map _ = _
  rw [bools_mapB]
  rfl
theorem ev_lc2C {vs1 : List Nat} {p p1 : Pat} {it1 : Rho → Option (List D)} {f : EF} {ρ ρ1 : Rho} {x : D} {xs its r t : List D} (e1 : bindP p x ρ = some ρ1) (e2 : it1 ρ1 = some its) (e3 : lcGo p1 oYes f (wipeR ρ1 vs1) its = some r) (e4 : lc2Go vs1 p p1 it1 f ρ xs = some t) : lc2Go vs1 p p1 it1 f ρ (x :: xs) = some (r ++ t) := by
  show (bindP p x ρ).bind _ = _
  rw [e1]
  show (it1 ρ1).bind _ = _
  rw [e2]
  show (lcGo p1 oYes f (wipeR ρ1 vs1) its).bind _ = _
  rw [e3]
  show (lc2Go vs1 p p1 it1 f ρ xs).map _ = _
  rw [e4]
  rfl
theorem row_len6 {n : Int} {d : D} (h : isRow n n d = true) (n6 : n ≤ 6) : (rowB n d).length ≤ 6 := by
  obtain ⟨rs, rfl⟩ := isRow_tup h
  show (enAll n 0 rs).length ≤ 6
  rw [enAll_len]
  simp [isRow] at h
  omega
section
variable {P : Program} {w : World} {K : PySem.W.Frag} {mg : Str → Option Value} {base : Heap}
theorem ok_table {f : Addr} {fd : FuncData} (F : Fun K "is_table" "is_table" s_is_table f fd) (m_all : mg "all" = none) (m_len : mg "len" = none) (m_enumerate : mg "enumerate" = none)
    (C_is_row : Cl P w K mg base 1 "is_row" ["thing", "fewest", "most"] (spD 3 sRow)) (C_is_age_row : Cl P w K mg base 4 "is_age_row" ["world", "place", "row"] (spD 3 sAge)) : FnOk P w K mg base CX0 5 f fd ["world", "thing"] (spD 2 sTab) := by
  refine okFn F sc_is_table rfl fun cdv A outer s H E hr => ⟨_, (dSs_cons (dS_asg (K := K) (p := (.tp (.cons (.nm 2) (.cons (.nm 3) (.cons (.nm 4) (.cons (.nm 5) .nil)))))) (ps_asg (dE_var (μ := true) (pv 0)) (pg_tup (by rfl) (pgs_cons (pg_name (i := 2) sc_is_table.nd rfl (.inr rfl)) (pgs_cons (pg_name (i := 3) sc_is_table.nd rfl (.inl rfl)) (pgs_cons (pg_name (i := 4) sc_is_table.nd rfl (.inl rfl)) (pgs_cons (pg_name (i := 5) sc_is_table.nd rfl (.inl rfl)) pgs_nil)))))))
  (dSs_cons (dS_if (dT_not (dT_val (dE_cl C_is_row (hr.mono (by omega)) (by rfl) (dA_cons (dE_var (μ := true) (pv 1)) (dA_cons (dE_callB c_len (by rfl) m_len (by decide +kernel) (dA_cons (dE_var (μ := true) (pv 3)) (dA_nil (μ := true)))) (dA_cons (dE_callB c_len (by rfl) m_len (by decide +kernel) (dA_cons (dE_var (μ := true) (pv 3)) (dA_nil (μ := true)))) (dA_nil (μ := true))))))))
    (dSs_one (dS_ret (ps_ret (dE_c (μ := true) pe_bl))))
    dSs_nil)
  (dSs_cons (dS_if (dT_not (dT_val (dE_callB (c_all rfl) (by rfl) m_all (by decide +kernel) (dA_cons (dE_lc (K := K) (p := (.nm 6)) (pe_lc (own := [("rows", 6)]) (g := gP K (.nm 6)) rfl sc_is_table.nd (dI_seq (dE_var (μ := true) (pv 1))) (blkOk_by (own := [("rows", 6)]) (N := ["world", "thing", "span", "kinds", "sources", "ways", "rows", "place", "row"]) (sc := defScope s_is_table) (by decide +kernel)) (fun _ _ _ _ _ => (pg_name (i := 6) sc_is_table.nd rfl (.inl rfl))) (fun _ _ _ _ _ => dTs_nil) (fun _ _ _ _ _ => (dE_cl C_is_row (hr.mono (by omega)) (by rfl) (dA_cons (dE_var (μ := true) (pv 6)) (dA_cons (dE_var (μ := true) (pv 2)) (dA_cons (dE_var (μ := true) (pv 2)) (dA_nil (μ := true))))))))) (dA_nil (μ := true))))))
    (dSs_one (dS_ret (ps_ret (dE_c (μ := true) pe_bl))))
    dSs_nil)
  (dSs_one (dS_ret (ps_ret (dE_callB (c_all rfl) (by rfl) m_all (by decide +kernel) (dA_cons (dE_lc2 (K := K) (p := (.nm 6)) (p1 := (.tp (.cons (.nm 7) (.cons (.nm 8) .nil)))) (pe_lc2 (own := [("rows", 6), ("place", 7), ("row", 8)]) (vs1 := [7, 8]) (g := gP K (.nm 6)) (g1 := gP K (.tp (.cons (.nm 7) (.cons (.nm 8) .nil)))) rfl sc_is_table.nd (dI_seq (dE_var (μ := true) (pv 1))) (blkOk_by (own := [("rows", 6), ("place", 7), ("row", 8)]) (N := ["world", "thing", "span", "kinds", "sources", "ways", "rows", "place", "row"]) (sc := defScope s_is_table) (by decide +kernel)) (by decide) (fun _ _ _ _ _ => (pg_name (i := 6) sc_is_table.nd rfl (.inl rfl))) (fun _ _ _ _ _ => dTs_nil) (fun _ _ _ _ _ => (dI_enum (by rfl) m_enumerate (dA_cons (dE_var (μ := true) (pv 6)) (dA_nil (μ := true))))) (fun _ _ _ _ _ => (pg_tup (by rfl) (pgs_cons (pg_name (i := 7) sc_is_table.nd rfl (.inl rfl)) (pgs_cons (pg_name (i := 8) sc_is_table.nd rfl (.inl rfl)) pgs_nil)))) (fun _ _ _ _ _ => dTs_nil) (fun _ _ _ _ _ => (dE_cl C_is_age_row (hr.mono (by omega)) (by rfl) (dA_cons (dE_var (μ := true) (pv 0)) (dA_cons (dE_var (μ := true) (pv 7)) (dA_cons (dE_var (μ := true) (pv 8)) (dA_nil (μ := true))))))))) (dA_nil (μ := true)))))))))), fun ds d l e => ?_⟩
  match ds, e with
  | [.tuple [.int n, .tuple ks, so, wa], x], e =>
    obtain ⟨⟨n0, n6, k4⟩, rfl⟩ := iteS e
    refine ⟨.rt (.bool (tabOk n ks.length x)), ?_, rfl⟩
    let W : D := .tuple [.int n, .tuple ks, so, wa]
    let ρ0 : D → Rho := fun x => [some (.dat W), some (.dat x), some (.dat (.int n)), some (.dat (.tuple ks)), some (.dat so), some (.dat wa), none, none, none]
    refine (ev_asg (ρ' := ρ0 x) rfl rfl).trans ?_
    refine (ev_guard (b := !isRow ks.length ks.length x) rfl rfl).trans ?_
    cases h0 : isRow ks.length ks.length x with
    | false =>
      have : tabOk n ks.length x = false := by
        unfold tabOk
        split
        · rw [h0]; rfl
        · rfl
      rw [this]
      rfl
    | true =>
      obtain ⟨xs, rfl⟩ := isRow_tup h0
      have xl : xs.length ≤ 4 := by
        simp [isRow] at h0
        omega
      refine (ev_guard (b := !xs.all (isRow n n)) (by exact ev_not (ev_oB (ev_all (xs := xs) (t := isRow n n) rfl (ev_lc (t := fun x => .bool (isRow n n x)) (by show 6 < 9; decide) xs fun x _ => rfl)))) rfl).trans ?_
      cases ha : xs.all (isRow n n) with
      | false => simp only [tabOk, h0, ha]; rfl
      | true =>
        have ea : tabOk n ks.length (.tuple xs) = (xs.map (rowB n)).flatten.all id := by simp only [tabOk, h0, ha, Bool.true_and]
        rw [ea]
        refine ev_ret ?_
        have hA : ∀ (k : Nat) c, sAge [W, .int k, c] = some (.bool (ageOk n k c)) := fun k c => if_pos n0
        have go : ∀ ys : List D, (∀ y ∈ ys, isRow n n y = true) → lc2Go [7, 8] (.nm 6) (.tp (.cons (.nm 7) (.cons (.nm 8) .nil))) (itG enD (aCons (eVar 6) aNil)) (eCall (gN 3 sAge) (aCons (eVar 0) (aCons (eVar 7) (aCons (eVar 8) aNil)))) (ρ0 (.tuple xs)) ys = some ((ys.map (rowB n)).flatten.map PyData.bool) := by
          intro ys
          induction ys with
          | nil => intro _; rfl
          | cons y ys ih =>
            intro hy
            obtain ⟨rs, rfl⟩ := isRow_tup (hy y (by simp))
            have inn := ev_lcEn (i := 7) (j := 8) (f := eCall (gN 3 sAge) (aCons (eVar 0) (aCons (eVar 7) (aCons (eVar 8) aNil)))) (ρ := [some (.dat W), some (.dat (.tuple xs)), some (.dat (.int n)), some (.dat (.tuple ks)), some (.dat so), some (.dat wa), some (.dat (.tuple rs)), none, none]) (t := fun k x => .bool (ageOk n k x)) (by show 7 < 9; decide) (by show 8 < 9; decide) rs 0 fun k c _ => ev_call rfl rfl (hA k c)
            refine (ev_lc2C (ρ1 := [some (.dat W), some (.dat (.tuple xs)), some (.dat (.int n)), some (.dat (.tuple ks)), some (.dat so), some (.dat wa), some (.dat (.tuple rs)), none, none]) rfl rfl inn (ih fun z hz => hy z (by simp [hz]))).trans ?_
            rw [← enAll_map, List.map_cons, List.flatten_cons, List.map_append]
            rfl
        have fl := flat_len n 6 xs fun d hd => row_len6 (List.all_eq_true.mp ha d hd) n6
        have lc : eLc2 true [6, 7, 8] [7, 8] (itSeq (eVar 1)) (.nm 6) (.tp (.cons (.nm 7) (.cons (.nm 8) .nil))) (itG enD (aCons (eVar 6) aNil)) (eCall (gN 3 sAge) (aCons (eVar 0) (aCons (eVar 7) (aCons (eVar 8) aNil)))) (ρ0 (.tuple xs)) = some (.list ((xs.map (rowB n)).flatten.map PyData.bool)) := by
          show ((lc2Go _ _ _ _ _ (ρ0 (.tuple xs)) xs).bind fun r => if r.length ≤ 100000 then some (PyData.list r) else none) = _
          rw [go xs fun y hy => List.all_eq_true.mp ha y hy]
          exact if_pos (by rw [List.length_map]; omega)
        exact ev_all2 lc
end
end Dl
namespace Dl
open PySem PySem.Spec PyProof.Rows L2 Rt
/-! ### shut tables -/
theorem tab_ok {B : Int} {X : Wd} {t : Tb} (h : TbG B X t) (hX : X.ok) (hB : B ≤ 3000000000000000) : tabOk X.n X.ks.length (tbD t) = true := by
  have n1 := hX.n1
  have hl := h.l
  have ageT : ∀ (p : Nat) (s : List (Option Int)), StG B X.n (p : Int) s → ageOk X.n (p : Int) (stD s) = true := fun p s g => by
    have sl := g.l
    have ml : (s.map celD).length = 27 := by rw [List.length_map]; exact sl
    refine Bool.and_eq_true_iff.mpr ⟨?_, Bool.and_eq_true_iff.mpr ⟨?_, ?_⟩⟩
    · show (decide ((27 : Int) ≤ (s.map celD).length) && decide (((s.map celD).length : Int) ≤ 27)) = true
      rw [ml]
      rfl
    · refine List.all_eq_true.mpr fun d hd => ?_
      obtain ⟨c, hc, rfl⟩ := List.mem_map.mp hd
      cases c with
      | none => rfl
      | some i =>
        have r := g.res i hc
        have lo := g.lo i hc
        have hi := g.hi i hc
        show ((decide (-20 ≤ i) && decide (i ≤ 3000000000000000)) && (i % X.n == (p : Int))) = true
        rw [decide_eq_true (by omega), decide_eq_true (by omega), r]
        simp
    · show (!(((s.map celD).zip ((s.map celD).drop 1)).any fun p => abv p.2 p.1)) = true
      rw [Bool.not_eq_true', List.any_eq_false]
      intro z hz
      obtain ⟨i, hi⟩ := List.getElem?_of_mem hz
      rw [List.getElem?_zip_eq_some] at hi
      obtain ⟨h1, h2⟩ := hi
      rw [List.getElem?_drop, List.getElem?_map] at h2
      rw [List.getElem?_map] at h1
      obtain ⟨c1, e1, z1⟩ := some_map h1
      obtain ⟨c2, e2, z2⟩ := some_map h2
      rw [← z1, ← z2]
      have il := (List.getElem?_eq_some_iff.mp e2).1
      cases c1 with
      | none => cases c2 <;> simp [celD, abv]
      | some a =>
        obtain ⟨b, eb, lb⟩ := g.mon i (1 + i) a e1 (by omega) (by omega)
        rw [e2] at eb
        cases eb
        show ¬ decide (b > a) = true
        simp
        omega
  refine Bool.and_eq_true_iff.mpr ⟨?_, Bool.and_eq_true_iff.mpr ⟨?_, ?_⟩⟩
  · show (decide ((X.ks.length : Int) ≤ (t.map rwD).length) && decide (((t.map rwD).length : Int) ≤ X.ks.length)) = true
    rw [List.length_map, hl]
    simp
  · refine List.all_eq_true.mpr fun d hd => ?_
    obtain ⟨r, hr, rfl⟩ := List.mem_map.mp hd
    have rl := h.r r hr
    show (decide (X.n ≤ (r.map stD).length) && decide (((r.map stD).length : Int) ≤ X.n)) = true
    rw [List.length_map, rl, decide_eq_true (by omega), decide_eq_true (by omega)]
    rfl
  · refine List.all_eq_true.mpr fun b hb => ?_
    obtain ⟨bs, hbs, hb⟩ := List.mem_flatten.mp hb
    obtain ⟨d, hd, rfl⟩ := List.mem_map.mp hbs
    obtain ⟨r, hr, rfl⟩ := List.mem_map.mp hd
    have go : ∀ (ss : List (List (Option Int))) (k : Nat), (∀ (p : Nat) s, ss[p]? = some s → StG B X.n ((k + p : Nat) : Int) s) → ∀ b ∈ enAll X.n k (ss.map stD), b = true := by
      intro ss
      induction ss with
      | nil => intro k _ b hb; cases hb
      | cons s ss ih =>
        intro k hg b hb
        rcases List.mem_cons.mp (show b ∈ ageOk X.n (k : Int) (stD s) :: enAll X.n (k + 1) (ss.map stD) from hb) with rfl | hb
        · exact ageT k s (hg 0 s rfl)
        · exact ih (k + 1) (fun p s e => by rw [show k + 1 + p = k + (p + 1) by omega]; exact hg (p + 1) s e) b hb
    exact go r 0 (fun p s e => by rw [Nat.zero_add]; exact h.s r hr p s e) b hb
noncomputable def sShu : List D → Option D := fun ds => match ds with
  | [d, e] => @dite _ (∃ X t, X.ok ∧ d = X.d ∧ e = tbD t ∧ ∃ B, TbG B X t ∧ B ≤ 3000000000000000) (Classical.propDecidable _) (fun h => some (.bool (lekO h.choose h.choose_spec.choose).isNone)) (fun _ => @dite _ (∃ X : Wd, X.ok ∧ d = X.d ∧ tabOk X.n X.ks.length e = false) (Classical.propDecidable _) (fun _ => some (.bool false)) (fun _ => none))
  | _ => none
theorem shu_t {X : Wd} {t : Tb} {B : Int} (hX : X.ok) (h : TbG B X t) (hB : B ≤ 3000000000000000) : sShu [X.d, tbD t] = some (.bool (lekO X t).isNone) := by
  unfold sShu
  have z : ∃ X' t', X'.ok ∧ X.d = X'.d ∧ tbD t = tbD t' ∧ ∃ B, TbG B X' t' ∧ B ≤ 3000000000000000 := ⟨X, t, hX, rfl, rfl, B, h, hB⟩
  dsimp only
  rw [dif_pos z]
  obtain ⟨_, e1, e2, _⟩ := z.choose_spec.choose_spec
  have key : ∀ X' t', X.d = X'.d → tbD t = tbD t' → lekO X' t' = lekO X t := fun X' t' a b => by
    cases Wd.inj a
    cases tbD.inj b
    rfl
  rw [key _ _ e1 e2]
theorem shu_f {X : Wd} {e : D} (hX : X.ok) (h : tabOk X.n X.ks.length e = false) : sShu [X.d, e] = some (.bool false) := by
  unfold sShu
  dsimp only
  rw [dif_neg, dif_pos ⟨X, hX, rfl, h⟩]
  rintro ⟨X', t, hX', e1, rfl, B, hg, hB⟩
  cases Wd.inj e1
  rw [tab_ok hg hX hB] at h
  cases h
section
variable {P : Program} {w : World} {K : PySem.W.Frag} {mg : Str → Option Value} {base : Heap}
theorem ok_shu {f : Addr} {fd : FuncData} (F : Fun K "is_shut" "is_shut" s_is_shut f fd) (C_is_table : Cl P w K mg base 5 "is_table" ["world", "thing"] (spD 2 sTab)) (C_leak : Cl P w K mg base 5 "leak" ["world", "table"] (spD 2 SLeak.f)) : FnOk P w K mg base CX0 6 f fd ["world", "thing"] (spD 2 sShu) := by
  refine okFn F sc_is_shut rfl fun cdv A outer s H E hr => ⟨_, (dSs_one (dS_ret (ps_ret (dE_and (dE_cl C_is_table (hr.mono (by omega)) (by rfl) (dA_cons (dE_var (μ := true) (pv 0)) (dA_cons (dE_var (μ := true) (pv 1)) (dA_nil (μ := true))))) (dE_one (dE_cmp o_is (dE_cl C_leak (hr.mono (by omega)) (by rfl) (dA_cons (dE_var (μ := true) (pv 0)) (dA_cons (dE_var (μ := true) (pv 1)) (dA_nil (μ := true))))) (dE_c (μ := true) pe_non) (nomark _))))))), fun ds d l e => ?_⟩
  match ds, e with
  | [a, b], e =>
    have st : ∀ X : Wd, X.ok → sTab [X.d, b] = some (.bool (tabOk X.n X.ks.length b)) := fun X hX => by
      have n1 := hX.n1
      have n6 := hX.n6
      have k4 := hX.k4
      show (if 0 < X.n ∧ X.n ≤ 6 ∧ (X.ks.map PyData.str).length ≤ 4 then some (PyData.bool (tabOk X.n (X.ks.map PyData.str).length b)) else none) = _
      rw [List.length_map, if_pos ⟨by omega, n6, k4⟩]
    by_cases z1 : ∃ X t, X.ok ∧ a = X.d ∧ b = tbD t ∧ ∃ B, TbG B X t ∧ B ≤ 3000000000000000
    · obtain ⟨X, t, hX, rfl, rfl, B, hg, hB⟩ := z1
      rw [shu_t hX hg hB] at e
      cases e
      refine ⟨.rt (.bool (lekO X t).isNone), ?_, rfl⟩
      have s1 := st X hX
      rw [tab_ok hg hX hB] at s1
      refine ev_ret (ev_and (b := true) (ev_call (ds := [X.d, tbD t]) rfl rfl s1) (fun _ => ?_) (fun c => by cases c))
      refine ev_e2 (a := (lekO X t).getD .none) (b := .none) (ev_call (ds := [X.d, tbD t]) rfl rfl (Sem.of (S := SLeak) (x := (X, t)) ⟨hX, hg.ok hB⟩)) rfl ?_
      cases hk : lekO X t with
      | none => rfl
      | some q =>
        have : ∃ ds, q = .tuple ds := by
          unfold lekO at hk
          split at hk
          · cases hk; exact ⟨_, rfl⟩
          · obtain ⟨r, _, rfl⟩ := some_map hk
            exact ⟨_, rfl⟩
        obtain ⟨ds, rfl⟩ := this
        rfl
    · by_cases z2 : ∃ X : Wd, X.ok ∧ a = X.d ∧ tabOk X.n X.ks.length b = false
      · obtain ⟨X, hX, rfl, hf⟩ := z2
        rw [shu_f hX hf] at e
        cases e
        refine ⟨.rt (.bool false), ?_, rfl⟩
        have s1 := st X hX
        rw [hf] at s1
        exact ev_ret (ev_and (b := false) (ev_call (ds := [X.d, b]) rfl rfl s1) (fun c => by cases c) (fun _ => rfl))
      · unfold sShu at e
        dsimp only at e
        rw [dif_neg z1, dif_neg z2] at e
        cases e
end
end Dl
namespace Dl
open PySem PySem.Spec PyProof.Rows L2 Rt
def spLaw (K : PySem.W.Frag) : Sp := fun vs H Q _ => ∃ (a : Addr) (ns : List Int), vs = [.ref a] ∧ SqL K H a (ns.map V.int) ∧ ns.length ≤ 63 ∧ ∀ H', Q (.bl true) H'
theorem int_bd {m n : Nat} {i : Int} (h : i.natAbs ≤ 9000000000000000) : Bd m (n + 1) (.int i) ∧ (PyData.int i).weight ≤ 60 := by
  refine ⟨by show i.natAbs ≤ 10 ^ 29 + 100 * m; omega, ?_⟩
  show (if i == 0 then 0 else i.natAbs.log2 + 1) ≤ 60
  split
  · omega
  · by_cases z : i.natAbs = 0
    · rw [z]; decide
    · have := (Nat.log2_lt z).mpr (show i.natAbs < 2 ^ 59 by omega)
      omega
theorem wd_bd {X : Wd} (h : X.ok) : Bd 0 6 X.d ∧ X.d.weight ≤ 31000 := by
  have lk : ∀ z ∈ X.ks, Lf (.str z) := fun z hz => ⟨h.ks z hz, (h.ks z hz).2⟩
  have lfi : ∀ {i : Int}, 0 ≤ i → i ≤ 1000000 → Lf (.int i) := fun h0 h1 => lf_int (by omega) h1
  have bS : ∀ s ∈ X.ss, Bd 0 2 s.d ∧ s.d.weight ≤ 105 := fun s hs => by
    have o := h.ss s hs
    refine bd_tup (l := 5) (c := 20) (by simp) (by decide) fun d hd => ?_
    have a0 := o.a0; have a1 := o.a1; have p0 := o.p0; have p1 := o.p1; have s0 := o.s0; have s1 := o.s1; have m0 := o.m0; have m1 := o.m1; have n6 := h.n6
    simp only [List.mem_cons, List.not_mem_nil, or_false] at hd
    rcases hd with rfl | rfl | rfl | rfl | rfl
    · exact lk _ o.k
    · exact lfi a0 (by omega)
    · exact lfi p0 (by omega)
    · exact lfi s0 s1
    · exact lfi m0 (by omega)
  have bW : ∀ y ∈ X.ws, Bd 0 4 y.d ∧ y.d.weight ≤ 965 := fun y hy => by
    have o := h.ws y hy
    have w0 := o.w0; have w1 := o.w1; have n6 := h.n6
    have up : ∀ {d : D}, Lf d → Bd 0 3 d ∧ d.weight ≤ 192 := fun l => ⟨l.1.up (Nat.le_refl _) (by decide), Nat.le_trans l.2 (by decide)⟩
    refine bd_tup (l := 5) (c := 192) (by simp) (by decide) fun d hd => ?_
    simp only [List.mem_cons, List.not_mem_nil, or_false] at hd
    rcases hd with rfl | rfl | rfl | rfl | rfl
    · exact up (lk _ o.k)
    · refine bd_tup (l := 3) (c := 63) (by rw [List.length_map]; exact o.p3) (by decide) fun d hd => ?_
      obtain ⟨p, hp, rfl⟩ := List.mem_map.mp hd
      have po := o.ps p hp
      have l0 := po.l0; have lg := po.lg; have g1 := po.g1
      refine bd_tup (l := 3) (c := 20) (by simp) (by decide) fun d hd => ?_
      simp only [List.mem_cons, List.not_mem_nil, or_false] at hd
      rcases hd with rfl | rfl | rfl
      · exact lk _ po.k
      · exact lfi l0 (by omega)
      · exact lfi (by omega) (by omega)
    · rcases o.kp with e | e
      · rw [e]; exact up (lf_S "oldest")
      · rw [e]; exact up (lf_S "youngest")
    · have := bd_tup (m := 0) (n := 1) (l := 6) (c := 20) (ds := y.hs.map .int) (by rw [List.length_map]; exact o.hl) (by decide) fun d hd => by
        obtain ⟨i, hi, rfl⟩ := List.mem_map.mp hd
        have := o.hs i hi
        exact lfi (by omega) (by omega)
      exact ⟨this.1.up (Nat.le_refl _) (by decide), Nat.le_trans this.2 (by decide)⟩
    · exact up (lfi (by omega) (by omega))
  have n1 := h.n1; have n6 := h.n6
  have all : ∀ x ∈ [PyData.int X.n, .tuple (X.ks.map .str), .tuple (X.ss.map Sr.d), .tuple (X.ws.map Wy.d)], Bd 0 5 x ∧ x.weight ≤ 7728 := by
    intro d hd
    simp only [List.mem_cons, List.not_mem_nil, or_false] at hd
    rcases hd with rfl | rfl | rfl | rfl
    · have := lf_int (i := X.n) (by omega) (by omega)
      exact ⟨this.1.up (Nat.le_refl _) (by decide), Nat.le_trans this.2 (by decide)⟩
    · have := bd_tup (m := 0) (n := 1) (l := 4) (c := 20) (ds := X.ks.map .str) (by rw [List.length_map]; exact h.k4) (by decide) fun d hd => by
        obtain ⟨z, hz, rfl⟩ := List.mem_map.mp hd
        exact lk z hz
      exact ⟨this.1.up (Nat.le_refl _) (by decide), Nat.le_trans this.2 (by decide)⟩
    · have := bd_tup (m := 0) (n := 2) (l := 6) (c := 105) (ds := X.ss.map Sr.d) (by rw [List.length_map]; exact h.sl) (by decide) fun d hd => by
        obtain ⟨z, hz, rfl⟩ := List.mem_map.mp hd
        exact bS z hz
      exact ⟨this.1.up (Nat.le_refl _) (by decide), Nat.le_trans this.2 (by decide)⟩
    · exact bd_tup (m := 0) (n := 4) (l := 8) (c := 965) (ds := X.ws.map Wy.d) (by rw [List.length_map]; exact h.wl) (by decide) fun d hd => by
        obtain ⟨z, hz, rfl⟩ := List.mem_map.mp hd
        exact bW z hz
  have := bd_tup (m := 0) (n := 5) (l := 4) (c := 7728) (ds := [PyData.int X.n, .tuple (X.ks.map .str), .tuple (X.ss.map Sr.d), .tuple (X.ws.map Wy.d)]) (by simp) (by decide) all
  exact ⟨this.1, Nat.le_trans this.2 (by decide)⟩
theorem tb_bd {X : Wd} {t : Tb} (hX : X.ok) (h : tbOk X t) : Bd 30 4 (tbD t) ∧ (tbD t).weight ≤ 4 * 9889 := by
  have k4 := hX.k4
  have n6 := hX.n6
  refine bd_tup (c := 9888) (by rw [List.length_map, h.l]; exact k4) (by decide) fun d hd => ?_
  obtain ⟨r, hr, rfl⟩ := List.mem_map.mp hd
  refine bd_tup (l := 6) (c := 1647) (by rw [List.length_map, h.r r hr]; omega) (by decide) fun d hd => ?_
  obtain ⟨s, hs, rfl⟩ := List.mem_map.mp hd
  refine bd_tup (l := 27) (c := 60) (by rw [List.length_map, h.s r hr s hs]; omega) (by decide) fun d hd => ?_
  obtain ⟨c, hc, rfl⟩ := List.mem_map.mp hd
  cases c with
  | none => exact ⟨trivial, by decide⟩
  | some i => exact int_bd (by have := h.c r hr s hs i hc; omega)
end Dl
namespace Dl
open PySem PySem.Spec PyProof.Rows L2 Rt
/-! ### numbers are small, or their moments are far: nothing stands between -/
def GapS (L : Int) (s : List (Option Int)) : Prop := ∀ (a : Nat) (i : Int), s[a]? = some (some i) → i ≤ L ∨ (900000000000000 : Int) ≤ i + (a : Int)
def Gap (L : Int) (t : Tb) : Prop := ∀ r ∈ t, ∀ s ∈ r, GapS L s
theorem GapS.up {L L' : Int} {s : List (Option Int)} (h : GapS L s) (l : L ≤ L') : GapS L' s := fun a i e => by
  rcases h a i e with z | z
  · exact .inl (by omega)
  · exact .inr z
theorem Gap.up {L L' : Int} {t : Tb} (h : Gap L t) (l : L ≤ L') : Gap L' t := fun r hr s hs => (h r hr s hs).up l
theorem GapS.low {L : Int} {s : List (Option Int)} (h : GapS L s) {a0 : Nat} {o : Int} (ho : o ≤ L ∨ (900000000000000 : Int) ≤ o + (a0 : Int)) : GapS L (lowR s a0 27 o) := fun a i e => by
  rw [lowR_get] at e
  cases hs : s[a]? with
  | none => rw [hs] at e; cases e
  | some c =>
    rw [hs] at e
    have e : some (if a0 ≤ a ∧ a < 27 then lowC c o else c) = some (some i) := e
    injection e with e
    have old : c = some i → i ≤ L ∨ (900000000000000 : Int) ≤ i + (a : Int) := fun z => h a i (by rw [hs, z])
    by_cases ha : a0 ≤ a ∧ a < 27
    · rw [if_pos ha] at e
      have new : o = i → i ≤ L ∨ (900000000000000 : Int) ≤ i + (a : Int) := fun z => by
        rcases ho with y | y
        · exact .inl (by omega)
        · exact .inr (by omega)
      cases c with
      | none => exact new (by injection e)
      | some j =>
        have e : some (if j > o then o else j) = some i := e
        injection e with e
        split at e
        · exact new e
        · exact old (by rw [e])
    · rw [if_neg ha] at e
      exact old e
theorem Gap.put {B L : Int} {X : Wd} {t : Tb} (g : TbG B X t) (hX : X.ok) (h : Gap L t) {k : Str} (hk : k ∈ X.ks) {o a : Int} (a0 : 0 ≤ a) (ho : o ≤ L ∨ (900000000000000 : Int) ≤ o + a) : Gap L (putT X t k o a) := by
  obtain ⟨j, r, s, A⟩ := g.at hX hk o
  rw [put_eq A]
  have rm := List.mem_of_getElem? A.ht
  have sm := List.mem_of_getElem? A.hr
  intro r' hr' s' hs'
  rcases List.mem_or_eq_of_mem_set hr' with z | rfl
  · exact h r' z s' hs'
  · rcases List.mem_or_eq_of_mem_set hs' with z | rfl
    · exact h r rm s' z
    · exact (h r rm s sm).low (by rcases ho with y | y; exact .inl y; exact .inr (by omega))
theorem Gap.cl {B L : Int} {X : Wd} {t : Tb} (g : TbG B X t) (hX : X.ok) (h : Gap L t) {k : Str} (hk : k ∈ X.ks) {p a i : Int} (a0 : 0 ≤ a) (a1 : a ≤ 26) (e : cl X t k p a = some i) : i ≤ L ∨ (900000000000000 : Int) ≤ i + a := by
  obtain ⟨j, r, s, A⟩ := g.at hX hk p
  rw [A.hc a, mn_id a1] at e
  cases hs : s[a.toNat]? with
  | none => rw [hs] at e; cases e
  | some c =>
    rw [hs] at e
    have e : c = some i := e
    subst e
    have := h r (List.mem_of_getElem? A.ht) s (List.mem_of_getElem? A.hr) a.toNat i hs
    rwa [show ((a.toNat : Nat) : Int) = a by omega] at this
theorem mo_gap {B L : Int} {X : Wd} {t : Tb} {p : Int} (g : TbG B X t) (hX : X.ok) (h : Gap L t) : ∀ (ps : List Pt) (as : List Int) (m m' : Int), (∀ q ∈ ps, q.k ∈ X.ks) → (∀ a ∈ as, 0 ≤ a ∧ a ≤ 20) → (m ≤ L + 20 ∨ (900000000000000 : Int) ≤ m) → mo X t p ps as m = some m' → m' ≤ L + 20 ∨ (900000000000000 : Int) ≤ m'
  | [], as, m, m', _, _, hm, e => by
    unfold mo at e
    cases e
    exact hm
  | q :: ps, [], m, m', _, _, hm, e => by
    unfold mo at e
    cases e
    exact hm
  | q :: ps, a :: as, m, m', hq, ha, hm, e => by
    rw [mo_step] at e
    obtain ⟨i, ei, e⟩ := some_bind e
    have a2 := ha a (by simp)
    have c := Gap.cl g hX h (hq q (by simp)) a2.1 (by omega) ei
    refine mo_gap g hX h ps as _ m' (fun q h => hq q (by simp [h])) (fun a h => ha a (by simp [h])) ?_ e
    split <;> omega
def fL : Option Int → Nat
  | none => 1
  | some i => if i ≤ 10000000000000 then 0 else 1
def lvl (t : Tb) : Int := 2000000 + 30 * (700 - (smT fL t : Int))
structure Iv (X : Wd) (t : Tb) : Prop where
  i : Inv X t
  g : Gap (lvl t) t
  n : smT fL t ≤ 648
theorem fL_low (c : Option Int) (o : Int) : fL (lowC c o) ≤ fL c := by
  cases c with
  | none =>
    show (if o ≤ 10000000000000 then 0 else 1) ≤ 1
    split <;> omega
  | some i =>
    show (if (if i > o then o else i) ≤ 10000000000000 then 0 else 1) ≤ (if i ≤ 10000000000000 then 0 else 1)
    by_cases h1 : i > o
    · rw [if_pos h1]
      split <;> split <;> omega
    · rw [if_neg h1]
      omega
theorem nL_le {B : Int} {X : Wd} {t : Tb} (h : TbG B X t) (hX : X.ok) : smT fL t ≤ 648 := by
  have n6 := hX.n6
  have k4 := hX.k4
  have hl := h.l
  have a : smT fL t ≤ t.length * 162 := sum_le fun r hr => by
    have rl := h.r r hr
    have b : smR fL r ≤ r.length * 27 := sum_le fun s hs => by
      obtain ⟨p, hp⟩ := List.getElem?_of_mem hs
      have sl := (h.s r hr p s hp).l
      have c : smS fL s ≤ s.length * 1 := sum_le fun c _ => by
        cases c with
        | none => exact Nat.le_refl _
        | some i => show (if i ≤ 10000000000000 then 0 else 1) ≤ 1; split <;> omega
      omega
    omega
  omega
theorem put_iv0 {X : Wd} {t : Tb} (h : Iv X t) (hX : X.ok) {k : Str} (hk : k ∈ X.ks) {o a : Int} (a0 : 0 ≤ a) (a1 : a ≤ 26) (o0 : -20 ≤ o) (o1 : o ≤ 2000000) : Iv X (putT X t k o a) := by
  have s := (put_sum h.i.g hX hk (o := o) a0 a1 (f := fL) fun c _ => fL_low c o).1
  have n := h.n
  have l : lvl t ≤ lvl (putT X t k o a) := by unfold lvl; omega
  exact ⟨put_inv0 h.i hX hk a0 a1 o0 (by omega), Gap.put h.i.g hX (h.g.up l) hk a0 (.inl (by unfold lvl; omega)), by omega⟩
theorem put_iv {X : Wd} {t : Tb} (h : Iv X t) (hX : X.ok) {k : Str} (hk : k ∈ X.ks) {o a : Int} (a0 : 0 ≤ a) (a1 : a ≤ 26) (o0 : -20 ≤ o) (o1 : o ≤ bnd t + 20) (og : o ≤ lvl t + 20 ∨ (900000000000000 : Int) ≤ o + a) (hl : hasC X t k o a = false) : Iv X (putT X t k o a) := by
  obtain ⟨s1, s2⟩ := put_sum h.i.g hX hk (o := o) a0 a1 (f := fL) fun c _ => fL_low c o
  have n := h.n
  have l : lvl t ≤ lvl (putT X t k o a) := by unfold lvl; omega
  have lt : lvl t ≤ 3000000 := by unfold lvl; omega
  refine ⟨(put_inv h.i hX hk a0 a1 o0 o1 hl).1, Gap.put h.i.g hX (h.g.up l) hk a0 ?_, by omega⟩
  rcases og with z | z
  · refine .inl ?_
    unfold hasC at hl
    cases hc : cl X t k o a with
    | none =>
      rw [hc] at s2
      have := s2 (by show (if o ≤ 10000000000000 then 0 else 1) < 1; rw [if_pos (by omega)]; omega)
      unfold lvl at z ⊢
      omega
    | some i =>
      rw [hc] at hl s2
      have hl := of_decide_eq_false hl
      by_cases hi : i ≤ 10000000000000
      · rcases Gap.cl h.i.g hX h.g hk a0 a1 hc with y | y
        · omega
        · omega
      · have := s2 (by
          show (if (if i > o then o else i) ≤ 10000000000000 then 0 else 1) < (if i ≤ 10000000000000 then 0 else 1)
          rw [if_pos (show i > o by omega), if_pos (by omega), if_neg hi]
          omega)
        unfold lvl at z ⊢
        omega
  · exact .inr z
theorem fold_p {α : Type} {P : Tb → Prop} {f : Tb → α → Tb} : ∀ (xs : List α) (t : Tb), P t → (∀ x ∈ xs, ∀ t, P t → P (f t x)) → P (xs.foldl f t)
  | [], t, h, _ => h
  | x :: xs, t, h, hf => fold_p xs (f t x) (hf x (by simp) t h) fun y hy => hf y (by simp [hy])
theorem md_gap {X : Wd} {t : Tb} (h : Iv X t) (hX : X.ok) {y : Wy} (hy : y ∈ X.ws) {p : Int} (hp : p ∈ y.hs) {as : List Int} (ha : InW as y.ps) {k : Str} {o a : Int} (e : mdT X t y p as = some (k, o, a)) : o ≤ lvl t + 20 ∨ (900000000000000 : Int) ≤ o + a := by
  have yo := hX.ws y hy
  have hb := ha.bd yo.ps
  have hh := yo.hs p hp
  have n6 := hX.n6
  have w0 := yo.w0
  have n := h.n
  unfold mdT at e
  cases em : mo X t p y.ps as p with
  | none => rw [em] at e; cases e
  | some m =>
    cases eo : ownO y as with
    | none => rw [em, eo] at e; cases e
    | some ow =>
      rw [em, eo] at e
      injection e with e
      injection e with e1 e
      injection e with e2 e3
      have b := hb ow (own_mem eo)
      have := mo_gap h.i.g hX h.g y.ps as p m (fun q hq => (yo.ps q hq).k) hb (.inl (by unfold lvl; omega)) em
      omega
theorem step_iv {X : Wd} (hX : X.ok) {t : Tb} (h : Iv X t) {y : Wy} (hy : y ∈ X.ws) {p : Int} (hp : p ∈ y.hs) {as : List Int} (ha : InW as y.ps) : Iv X (stepT X y p t as) := by
  unfold stepT
  cases e : mdT X t y p as with
  | none => exact h
  | some q =>
    obtain ⟨k, o, a⟩ := q
    have n := h.i.n
    obtain ⟨hk, a0, a1, o0, o1⟩ := md_bd h.i.g (by unfold bnd; omega) hX hy hp ha e
    show Iv X (if hasC X t k o a = true then t else putT X t k o a)
    cases hc : hasC X t k o a with
    | true => exact h
    | false => exact put_iv h hX hk a0 a1 o0 o1 (md_gap h hX hy hp ha e) hc
theorem pass_iv {X : Wd} (hX : X.ok) {t : Tb} (h : Iv X t) : Iv X (passT X t) := fold_p _ _ h fun y hy t h => fold_p _ _ h fun p hp t h => fold_p _ _ h fun as ha t h => step_iv hX h hy hp (chs_mem.mp ha)
theorem src_iv {X : Wd} (hX : X.ok) {t : Tb} (h : Iv X t) : Iv X (srcT X t) := fold_p _ _ h fun r hr t h => by
  have ro := hX.ss r hr
  have n1 := hX.n1
  have n6 := hX.n6
  have q0 := Int.emod_nonneg (r.p - r.s) (show X.n ≠ 0 by omega)
  have q1 := Int.emod_lt_of_pos (r.p - r.s) (show 0 < X.n by omega)
  have a0 := ro.a0
  have a1 := ro.a1
  have s0 := ro.s0
  have s1 := ro.s1
  exact put_iv0 h hX ro.k (by omega) (by omega) (by omega) (by omega)
theorem cloI_iv {X : Wd} (hX : X.ok) : ∀ (n : Nat) (t : Tb), Iv X t → Iv X (cloI X n t)
  | 0, t, h => h
  | n + 1, t, h => by
    unfold cloI
    split
    · exact h
    · exact cloI_iv hX n _ (pass_iv hX h)
theorem clo_iv {X : Wd} (hX : X.ok) {t : Tb} (h : Iv X t) : Iv X (cloT X t) := cloI_iv hX _ _ (src_iv hX h)
theorem Iv.of {X : Wd} {t : Tb} (h : TbG (1000000000001000 : Int) X t) (hX : X.ok) (g : Gap 1000 t) : Iv X t := by
  have n := nL_le h hX
  exact ⟨Inv.of h hX, g.up (by unfold lvl; omega), n⟩
theorem Iv.emp {X : Wd} (hX : X.ok) : Iv X (empT X) := Iv.of emp_g hX fun r hr s hs a i e => by
  rw [(List.mem_replicate.mp hr).2] at hs
  rw [(List.mem_replicate.mp hs).2, List.getElem?_replicate] at e
  split at e <;> cases e
/-- loosened: the first cells emptied, or the small ones of them raised by whole rounds -/
theorem loose_a {B n pl : Int} {s : List (Option Int)} (h : StG B n pl s) {m : Nat} (hm : m ≤ 27) : StG B n pl (List.replicate m none ++ s.drop m) := by
  have sl := h.l
  have get : ∀ (a : Nat) (i : Int), (List.replicate m none ++ s.drop m)[a]? = some (some i) → m ≤ a ∧ s[a]? = some (some i) := fun a i e => by
    rw [List.getElem?_append] at e
    split at e
    · rw [List.getElem?_replicate] at e
      split at e <;> cases e
    · rename_i ha
      rw [List.length_replicate] at ha e
      rw [List.getElem?_drop] at e
      exact ⟨by omega, by rw [show m + (a - m) = a by omega] at e; exact e⟩
  have mem : ∀ i, some i ∈ List.replicate m none ++ s.drop m → some i ∈ s := fun i hi => by
    obtain ⟨a, ha⟩ := List.getElem?_of_mem hi
    exact List.mem_of_getElem? (get a i ha).2
  refine ⟨by rw [List.length_append, List.length_replicate, List.length_drop]; omega, fun i hi => h.res i (mem i hi), fun i hi => h.lo i (mem i hi), fun i hi => h.hi i (mem i hi), fun a b i e hab hb => ?_⟩
  obtain ⟨ha, ea⟩ := get a i e
  obtain ⟨i', e', le⟩ := h.mon a b i ea hab hb
  refine ⟨i', ?_, le⟩
  rw [List.getElem?_append, if_neg (by rw [List.length_replicate]; omega), List.length_replicate, List.getElem?_drop, show m + (b - m) = b by omega]
  exact e'
def rais (f : Int) : Option Int → Option Int
  | none => none
  | some i => some (if i < 100000000000000 then i + f else i)
theorem loose_b {B n pl L : Int} {s : List (Option Int)} (h : StG B n pl s) (g : GapS L s) (hL : L ≤ 10000000000000) (hB : 200000000000000 ≤ B) {f : Int} (f0 : 0 ≤ f) (f1 : f ≤ 100) (fn : f % n = 0) {m : Nat} : StG B n pl ((s.take m).map (rais f) ++ s.drop m) := by
  have sl := h.l
  have get : ∀ a : Nat, ((s.take m).map (rais f) ++ s.drop m)[a]? = (s[a]?).map fun c => if a < m then rais f c else c := fun a => by
    rw [List.getElem?_append, List.length_map, List.length_take, List.getElem?_map, List.getElem?_take, List.getElem?_drop]
    by_cases ha : a < m
    · by_cases hs : a < s.length
      · rw [if_pos (by omega), if_pos ha]
        cases s[a]? with
        | none => rfl
        | some c => exact congrArg some (if_pos ha).symm
      · rw [if_neg (by omega), List.getElem?_eq_none (show s.length ≤ a by omega), List.getElem?_eq_none (by omega)]
        rfl
    · rw [if_neg (by omega)]
      by_cases hs : a < s.length
      · rw [show m + (a - min m s.length) = a by omega]
        cases s[a]? with
        | none => rfl
        | some c => exact congrArg some (if_neg ha).symm
      · rw [List.getElem?_eq_none (show s.length ≤ a by omega), List.getElem?_eq_none (by omega)]
        rfl
  have got : ∀ (a : Nat) (i : Int), ((s.take m).map (rais f) ++ s.drop m)[a]? = some (some i) → ∃ j, s[a]? = some (some j) ∧ i = (if a < m ∧ j < 100000000000000 then j + f else j) := fun a i e => by
    rw [get] at e
    obtain ⟨c, ec, e⟩ := some_map e
    cases c with
    | none => split at e <;> cases e
    | some j =>
      refine ⟨j, ec, ?_⟩
      by_cases ha : a < m
      · rw [if_pos ha] at e
        have e : some (if j < 100000000000000 then j + f else j) = some i := e
        injection e with e
        rw [← e]
        by_cases hj : j < 100000000000000
        · rw [if_pos hj, if_pos ⟨ha, hj⟩]
        · rw [if_neg hj, if_neg (fun z => hj z.2)]
      · rw [if_neg ha] at e
        injection e with e
        rw [if_neg (fun z => ha z.1)]
        exact e.symm
  refine ⟨by rw [List.length_append, List.length_map, List.length_take, List.length_drop]; omega, fun i hi => ?_, fun i hi => ?_, fun i hi => ?_, fun a b i e hab hb => ?_⟩
  · obtain ⟨a, ha⟩ := List.getElem?_of_mem hi
    obtain ⟨j, ej, rfl⟩ := got a i ha
    have r := h.res j (List.mem_of_getElem? ej)
    split
    · rw [Int.add_emod, fn, r, Int.add_zero, ← r, Int.emod_emod]
    · exact r
  · obtain ⟨a, ha⟩ := List.getElem?_of_mem hi
    obtain ⟨j, ej, rfl⟩ := got a i ha
    have r := h.lo j (List.mem_of_getElem? ej)
    split <;> omega
  · obtain ⟨a, ha⟩ := List.getElem?_of_mem hi
    obtain ⟨j, ej, rfl⟩ := got a i ha
    have r := h.hi j (List.mem_of_getElem? ej)
    split <;> omega
  · obtain ⟨j, ej, rfl⟩ := got a i e
    obtain ⟨j', ej', le⟩ := h.mon a b j ej hab hb
    have g1 := g a j ej
    have g2 := g b j' ej'
    refine ⟨if b < m ∧ j' < 100000000000000 then j' + f else j', ?_, ?_⟩
    · rw [get, ej']
      show some (if b < m then rais f (some j') else some j') = _
      by_cases hbm : b < m
      · rw [if_pos hbm]
        show some (some (if j' < 100000000000000 then j' + f else j')) = _
        by_cases hj : j' < 100000000000000
        · rw [if_pos hj, if_pos ⟨hbm, hj⟩]
        · rw [if_neg hj, if_neg (fun z => hj z.2)]
      · rw [if_neg hbm, if_neg (fun z => hbm z.1)]
    · have : (a : Int) ≤ 26 := by omega
      have : (b : Int) ≤ 26 := by omega
      split <;> split <;> omega
end Dl
namespace Dl
open PySem PySem.Spec PyProof.Rows L2 Rt
theorem snoc {α : Type} {acc rest : List α} {q : α} : acc ++ [q] ++ rest = acc ++ q :: rest := by simp
end Dl
namespace Dl
open PySem PySem.Spec PyProof.Rows L2 Rt
def gLoo : GF := gAny 5 (fun ds => ∃ (X : Wd) (t : Tb), ds = [X.d, tbD t] ∧ X.ok ∧ Iv X t) (fun ds d => ∃ (X : Wd) (t t' : Tb), ds = [X.d, tbD t] ∧ d = tbD t' ∧ TbG (2000000000000000 : Int) X t')
theorem forN_z {α : Type} {p : Pat} {body : WP Out} {e : α → D} {Q : Out → Nat → Prop} (I : List α → Rho → Prop) (hs : ∀ x xs ρ, I (x :: xs) ρ → ∃ ρ1, bindP p (e x) ρ = some ρ1 ∧ ∀ (b : Nat) (Q' : Out → Nat → Prop), (∀ ρ2, I xs ρ2 → Q' (.nx ρ2) b) → body.w ρ1 b Q') : ∀ (xs : List α) (ρ : Rho) (b : Nat), I xs ρ → (∀ ρ', I [] ρ' → Q (.nx ρ') b) → forN p body (xs.map e) ρ b Q
  | [], ρ, b, i, q => q ρ i
  | x :: xs, ρ, b, i, q => by
    obtain ⟨ρ1, e1, hw⟩ := hs x xs ρ i
    exact ⟨ρ1, e1, hw b _ fun ρ2 i2 => forN_z I hs xs ρ2 b i2 q⟩
theorem set_g {B : Int} {X : Wd} {t : Tb} (h : TbG B X t) {j p : Nat} {r : List (List (Option Int))} (er : t[j]? = some r) {s : List (Option Int)} (g : StG B X.n (p : Int) s) : TbG B X (t.set j (r.set p s)) := by
  have rm := List.mem_of_getElem? er
  refine ⟨by rw [List.length_set]; exact h.l, fun r' hr' => ?_, fun r' hr' p' s' e => ?_⟩
  · rcases List.mem_or_eq_of_mem_set hr' with z | rfl
    · exact h.r r' z
    · rw [List.length_set]; exact h.r r rm
  · rcases List.mem_or_eq_of_mem_set hr' with z | rfl
    · exact h.s r' z p' s' e
    · rw [set_getD] at e
      split at e
      · rename_i hp
        cases e
        rw [← hp.1]
        exact g
      · exact h.s r rm p' s' e
theorem mulX_1 {x : D} {k : Int} (k1 : 1 ≤ k) (k2 : k ≤ 1000) : mulX (.tuple [x]) (.int k) = some (.tuple (List.replicate k.toNat x)) := by
  have e : (List.replicate k.toNat [x]).flatten = List.replicate k.toNat x := by
    generalize k.toNat = n
    induction n with
    | zero => rfl
    | succ n ih => rw [List.replicate_succ, List.flatten_cons, ih]; rfl
  show (if [x] ≠ [] ∧ 1 ≤ k ∧ k ≤ 1000 ∧ [x].length ≤ 1000 then some (PyData.tuple (List.replicate k.toNat [x]).flatten) else none) = _
  rw [if_pos ⟨by simp, k1, k2, by simp⟩, e]
theorem sl_frm {xs : List D} {j : Nat} (h : j ≤ xs.length) : slD (.tuple xs) (some (j : Int)) none = some (.tuple (xs.drop j)) := by
  show some (PyData.tuple (cutD xs (some (j : Int)) none)) = _
  rw [cut_fr h]
section
variable {P : Program} {w : World} {K : PySem.W.Frag} {mg : Str → Option Value} {base : Heap}
theorem ok_loo {f : Addr} {fd : FuncData} (F : Fun K "_law_loosened" "_law_loosened" s_law_loosened f fd) (m_len : mg "len" = none) (m_tuple : mg "tuple" = none) (C__law_draw : Cl P w K mg base 1 "_law_draw" ["_law_pool_here", "_law_many"] (spN 1 gNext)) : FnOk P w K mg base CX0 2 f fd ["_law_pool_here", "_law_world_here", "_law_sheet"] (spN 2 gLoo) := by
  refine okFnN F sc_law_loosened rfl fun cdv A outer s H E hr => ⟨_, (nSs_cons (nS_par3 (ps_par3 (i := 3) (j := 4) (l := 5) (by rfl) sc_law_loosened.nd rfl rfl rfl (by decide) (by decide) (by decide) rfl rfl rfl (nA_cons (nE_draw C__law_draw (hr.mono (by omega)) (by rfl) (pv 0) (nA_cons (nE_pure (dE_callB c_len (by rfl) m_len (by decide +kernel) (dA_cons (dE_ix (dE_var (μ := true) (pv 1)) (dE_c (μ := true) pe_int)) (dA_nil (μ := true))))) nA_nil)) (nA_cons (nE_draw C__law_draw (hr.mono (by omega)) (by rfl) (pv 0) (nA_cons (nE_pure (dE_ix (dE_var (μ := true) (pv 1)) (dE_c (μ := true) pe_int))) nA_nil)) (nA_cons (nE_op o_add (nE_pure (dE_c (μ := true) pe_int)) (nE_draw C__law_draw (hr.mono (by omega)) (by rfl) (pv 0) (nA_cons (nE_pure (dE_c (μ := true) pe_int)) nA_nil))) nA_nil))) (by rfl)))
  (nSs_cons (nS_par (ps_par (i := 6) (j := 7) (by rfl) sc_law_loosened.nd rfl rfl (by decide) rfl rfl (nA_cons (nE_pure (dE_ix (dE_ix (dE_var (μ := true) (pv 2)) (dE_var (μ := true) (pv 3))) (dE_var (μ := true) (pv 4)))) (nA_cons (nE_op o_mulX (nE_pure (dE_ix (dE_var (μ := true) (pv 1)) (dE_c (μ := true) pe_int))) (nE_op o_add (nE_pure (dE_c (μ := true) pe_int)) (nE_draw C__law_draw (hr.mono (by omega)) (by rfl) (pv 0) (nA_cons (nE_pure (dE_c (μ := true) pe_int)) nA_nil)))) nA_nil)) (by rfl)))
  (nSs_cons (nS_if (nT_cmp (o_eq hr.units) (nE_draw C__law_draw (hr.mono (by omega)) (by rfl) (pv 0) (nA_cons (nE_pure (dE_c (μ := true) pe_int)) nA_nil)) (nE_pure (dE_c (μ := true) pe_int)) (nomark _))
    (nSs_one (nS_asg (K := K) (p := .nm 6) (ps_set (i := 6) sc_law_loosened.nd rfl (.inl rfl) (nE_pure (dE_op o_add (dE_op o_mulX (dE_tup (dA_cons (dE_c (μ := true) pe_non) (dA_nil (μ := true)))) (dE_var (μ := true) (pv 5))) (dE_sl (dE_var (μ := true) (pv 6)) (dO_some (dE_var (μ := true) (pv 5))) dO_none))))))
    (nSs_cons (nS_own (ps_set (i := 8) sc_law_loosened.nd rfl (.inl rfl) (nN_lst nA_nil)))
  (nSs_cons (nS_for (K := K) (p := (.nm 9)) (ps_for PassesOwn.never rfl (nI_pure (dI_seq (dE_sl (dE_var (μ := true) (pv 6)) dO_none (dO_some (dE_var (μ := true) (pv 5)))))) (pg_name (i := 9) sc_law_loosened.nd rfl (.inl rfl))
    (nSs_one (nS_app (K := K) (ps_expr (pe_bm PySem.F.plainAttrs_list PySem.F.slot_list_append PySem.F.type_list_append mt_append (pv 8) (nA_cons (nE_pure (dE_if (PW.pt (dW_and (dT_cmp o_isnot (dE_var (μ := true) (pv 9)) (dE_c (μ := true) pe_non) (nomark _)) (dW_and1 (dT_cmp o_lt (dE_var (μ := true) (pv 9)) (dE_op o_pow (dE_c (μ := true) pe_int) (dE_c (μ := true) pe_int)) (nomark _))))) (dE_op o_add (dE_var (μ := true) (pv 9)) (dE_var (μ := true) (pv 7))) (dE_var (μ := true) (pv 9)))) nA_nil)))))))
  (nSs_one (nS_asg (K := K) (p := .nm 6) (ps_set (i := 6) sc_law_loosened.nd rfl (.inl rfl) (nE_loose (dE_op o_add (dE_callTy c_tuple (by rfl) m_tuple (by decide +kernel) (dA_cons (dE_var (μ := true) (pv 8)) (dA_nil (μ := true)))) (dE_sl (dE_var (μ := true) (pv 6)) (dO_some (dE_var (μ := true) (pv 5))) dO_none)))))))))
  (nSs_cons (nS_asg (K := K) (p := .nm 10) (ps_set (i := 10) sc_law_loosened.nd rfl (.inl rfl) (nE_pure (dE_op o_add (dE_op o_add (dE_sl (dE_ix (dE_var (μ := true) (pv 2)) (dE_var (μ := true) (pv 3))) dO_none (dO_some (dE_var (μ := true) (pv 4)))) (dE_tup (dA_cons (dE_var (μ := true) (pv 6)) (dA_nil (μ := true))))) (dE_sl (dE_ix (dE_var (μ := true) (pv 2)) (dE_var (μ := true) (pv 3))) (dO_some (dE_op o_add (dE_var (μ := true) (pv 4)) (dE_c (μ := true) pe_int))) dO_none)))))
  (nSs_one (nS_retL (ps_ret (dE_op o_add (dE_op o_add (dE_sl (dE_var (μ := true) (pv 2)) dO_none (dO_some (dE_var (μ := true) (pv 3)))) (dE_tup (dA_cons (dE_var (μ := true) (pv 10)) (dA_nil (μ := true))))) (dE_sl (dE_var (μ := true) (pv 2)) (dO_some (dE_op o_add (dE_var (μ := true) (pv 3)) (dE_c (μ := true) pe_int))) dO_none))))))))), fun ds b Q l h => ?_⟩
  obtain ⟨⟨X, t, rfl, hX, hI⟩, hb, q⟩ := h
  have n1 := hX.n1
  have n6 := hX.n6
  have k1 := hX.k1
  have k4 := hX.k4
  have hg := hI.i.g
  have tl := hg.l
  let R : Option LV → Option LV → Option LV → Option LV → Option LV → Option LV → Option LV → Option LV → Rho := fun a b c d e f g h => [some .pool, some (.dat X.d), some (.dat (tbD t)), a, b, c, d, e, f, g, h]
  have el : eCall lenD (aCons (e2 ixD (eVar 1) (eC (PyData.int 1))) aNil) (shutR true (R none none none none none none none none)) = some (.int (X.ks.length : Int)) := by
    have ml : (X.ks.map PyData.str).length = X.ks.length := List.length_map ..
    rw [← ml]
    rfl
  refine wNext (m := (X.ks.length : Int)) rfl el (by omega) (by omega) (by omega) fun v1 b1 v10 v11 h1 => wNext (m := X.n) rfl rfl (by omega) (by omega) (by omega) fun v2 b2 v20 v21 h2 => ⟨.int 1, rfl, wNext (m := 27) rfl rfl (by decide) (by decide) (by omega) fun v3 b3 v30 v31 h3 => ⟨_, rfl, _, rfl, _, rfl, _, rfl, _, _, _, rfl, ?_⟩⟩
  obtain ⟨at1, rfl⟩ : ∃ x : Nat, v1 = x := ⟨v1.toNat, by omega⟩
  obtain ⟨pl, rfl⟩ : ∃ x : Nat, v2 = x := ⟨v2.toNat, by omega⟩
  obtain ⟨m, hm⟩ : ∃ x : Nat, 1 + v3 = x := ⟨(1 + v3).toNat, by omega⟩
  rw [hm]
  obtain ⟨r, er⟩ : ∃ r, t[at1]? = some r := ⟨_, List.getElem?_eq_getElem (by omega)⟩
  have rm := List.mem_of_getElem? er
  have rl := hg.r r rm
  obtain ⟨st, es⟩ : ∃ st, r[pl]? = some st := ⟨_, List.getElem?_eq_getElem (by omega)⟩
  have sg := hg.s r rm pl st es
  have gp := hI.g r rm st (List.mem_of_getElem? es)
  have sl := sg.l
  have nn := hI.i.n
  have nlv := hI.n
  have bt : bnd t ≤ (2000000000000000 : Int) := by unfold bnd; omega
  have lt : lvl t ≤ 10000000000000 := by unfold lvl; omega
  show WP.w _ (R (some (.dat (.int (at1 : Int)))) (some (.dat (.int (pl : Int)))) (some (.dat (.int (m : Int)))) none none none none none) b3 _
  have eix : e2 ixD (e2 ixD (eVar 2) (eVar 3)) (eVar 4) (shutR true (R (some (.dat (.int (at1 : Int)))) (some (.dat (.int (pl : Int)))) (some (.dat (.int (m : Int)))) none none none none none)) = some (stD st) := ev_e2 (a := rwD r) (b := .int (pl : Int)) (ev_e2 (a := tbD t) (b := .int (at1 : Int)) rfl rfl (at_map er)) rfl (at_map es)
  refine ⟨stD st, eix, .int X.n, rfl, .int 1, rfl, wNext (m := 3) rfl rfl (by decide) (by decide) (by omega) fun v4 b4 v40 v41 h4 => ⟨_, rfl, _, mulX_int ⟨by omega, by omega⟩, _, rfl, _, rfl, _, _, rfl, ?_⟩⟩
  obtain ⟨fa, hfa⟩ : ∃ fa, X.n * (1 + v4) = fa := ⟨_, rfl⟩
  have hfn : fa % X.n = 0 := by rw [← hfa]; exact Int.mul_emod_right ..
  have fb := bnd_mul n1 n6 (show 0 ≤ 1 + v4 by omega) (by omega)
  rw [hfa] at fb ⊢
  have fa18 : fa ≤ 18 := by
    rw [← hfa]
    have : X.n * (1 + v4) ≤ 6 * (1 + v4) := Int.mul_le_mul_of_nonneg_right n6 (by omega)
    omega
  have fin : ∀ (s' : List (Option Int)) (x8 x9 : Option LV) (b' : Nat), StG (2000000000000000 : Int) X.n (pl : Int) s' → b ≤ b' + 5 → (swSeq (swAsg (Pat.nm 10) (wP (e2 addD (e2 addD (eSl (e2 ixD (eVar 2) (eVar 3)) pNone (pSome (eVar 4))) (eTup (aCons (eVar 6) aNil))) (eSl (e2 ixD (eVar 2) (eVar 3)) (pSome (e2 addD (eVar 4) (eC (PyData.int 1)))) pNone)))) (swRetL (e2 addD (e2 addD (eSl (eVar 2) pNone (pSome (eVar 3))) (eTup (aCons (eVar 10) aNil))) (eSl (eVar 2) (pSome (e2 addD (eVar 3) (eC (PyData.int 1)))) pNone)))).w (R (some (.dat (.int (at1 : Int)))) (some (.dat (.int (pl : Int)))) (some (.dat (.int (m : Int)))) (some (.dat (stD s'))) (some (.dat (.int fa))) x8 x9 none) b' (TellsN Q) := fun s' x8 x9 b' hs' hb' => by
    refine ⟨rwD (r.set pl s'), ev_swap (en := stD) (xs := r) (j := pl) (y := s') (by omega) (by omega) (ev_e2 (a := tbD t) (b := .int (at1 : Int)) rfl rfl (at_map er)) rfl rfl, R (some (.dat (.int (at1 : Int)))) (some (.dat (.int (pl : Int)))) (some (.dat (.int (m : Int)))) (some (.dat (stD s'))) (some (.dat (.int fa))) x8 x9 (some (.dat (rwD (r.set pl s')))), rfl, ?_⟩
    exact ⟨tbD (t.set at1 (r.set pl s')), ev_swap (en := rwD) (xs := t) (j := at1) (y := r.set pl s') (by omega) (by omega) rfl rfl rfl, q _ b' ⟨X, t, _, rfl, rfl, set_g (hg.up bt) er hs'⟩ hb'⟩
  show WP.w _ (R (some (.dat (.int (at1 : Int)))) (some (.dat (.int (pl : Int)))) (some (.dat (.int (m : Int)))) (some (.dat (stD st))) (some (.dat (.int fa))) none none none) b4 _
  have ml : (st.map celD).length = 27 := by rw [List.length_map]; exact sl
  refine wNext (m := 2) rfl rfl (by decide) (by decide) (by omega) fun v5 b5 v50 v51 h5 => ⟨.int 0, rfl, .bool (v5 == 0), eq_ok rfl rfl, (v5 == 0), rfl, ?_⟩
  refine iteB (c := v5 == 0) (fun h => ?_) (fun h => ?_)
  · refine ⟨stD (List.replicate m none ++ st.drop m), ?_, R (some (.dat (.int (at1 : Int)))) (some (.dat (.int (pl : Int)))) (some (.dat (.int (m : Int)))) (some (.dat (stD (List.replicate m none ++ st.drop m)))) (some (.dat (.int fa))) none none none, rfl, fin _ none none b5 (loose_a (sg.up bt) (by omega)) (by omega)⟩
    refine (ev_e2 (a := .tuple (List.replicate m .none)) (b := .tuple ((st.map celD).drop m)) (ev_e2 (a := .tuple [.none]) (b := .int (m : Int)) rfl rfl (mulX_1 (by omega) (by omega))) (ev_sl (d := stD st) (l := some (m : Int)) rfl rfl rfl (sl_frm (by omega))) (add_tup (sz (by rw [List.length_replicate, List.length_drop]; omega)))).trans ?_
    unfold stD
    rw [List.map_append, List.map_replicate, List.map_drop]
    rfl
  · let RR : List (Option Int) → Option LV → Rho := fun acc x9 => R (some (.dat (.int (at1 : Int)))) (some (.dat (.int (pl : Int)))) (some (.dat (.int (m : Int)))) (some (.dat (stD st))) (some (.dat (.int fa))) (some (.own (acc.map celD))) x9 none
    refine ⟨.list [], rfl, [], rfl, by show 8 < 11; decide, ?_⟩
    show WP.w _ (RR [] none) b5 _
    refine ⟨(st.take m).map celD, ?_, forN_z (p := .nm 9) (e := celD) (fun rem ρ => ∃ acc x9, ρ = RR acc x9 ∧ acc ++ rem.map (rais fa) = (st.take m).map (rais fa)) (fun c rem ρ i => ?_) (st.take m) (RR [] none) b5 ⟨[], none, rfl, rfl⟩ (fun ρ' i => ?_)⟩
    · have e1 : eSl (eVar 6) pNone (pSome (eVar 5)) (shutR true (RR [] none)) = some (.tuple ((st.map celD).take m)) := ev_sl (d := stD st) (h := some (m : Int)) rfl rfl rfl (sl_to (by omega))
      refine (congrArg (fun o : Option D => o.bind seqD) e1).trans ?_
      show some ((st.map celD).take m) = _
      rw [List.map_take]
    · obtain ⟨acc, x9, rfl, hf⟩ := i
      refine ⟨RR acc (some (.dat (celD c))), rfl, fun b Q' q' => ?_⟩
      have al : acc.length ≤ 27 := by
        have := congrArg List.length hf
        rw [List.length_append, List.length_map, List.length_map, List.length_take] at this
        omega
      have hs : (acc.map celD).length < sizeLine := Nat.lt_of_lt_of_le (show _ < 100000 by rw [List.length_map]; omega) (by decide)
      have ev : eIf (oAnd (oB (e2 noND (eVar 9) (eC PyData.none))) (oB (e2 ltD (eVar 9) (e2 powD (eC (PyData.int 10)) (eC (PyData.int 14)))))) (e2 addD (eVar 9) (eVar 7)) (eVar 9) (shutR true (RR acc (some (.dat (celD c))))) = some (celD (rais fa c)) := by
        cases c with
        | none => rfl
        | some i =>
          have e14 : e2 powD (eC (PyData.int 10)) (eC (PyData.int 14)) (shutR true (RR acc (some (.dat (celD (some i)))))) = some (.int 100000000000000) := rfl
          refine ev_eIf (b := decide (i < 100000000000000)) (by
            have : oB (e2 ltD (eVar 9) (e2 powD (eC (PyData.int 10)) (eC (PyData.int 14)))) (shutR true (RR acc (some (.dat (celD (some i)))))) = some (decide (i < 100000000000000)) := ev_oB (ev_e2 (a := .int i) (b := .int 100000000000000) rfl e14 rfl)
            exact this) ?_
          by_cases hi : i < 100000000000000
          · rw [if_pos (decide_eq_true hi)]
            show some (PyData.int (i + fa)) = some (celD (some (if i < 100000000000000 then i + fa else i)))
            rw [if_pos hi]
            rfl
          · rw [if_neg (by simpa using hi)]
            show some (PyData.int i) = some (celD (some (if i < 100000000000000 then i + fa else i)))
            rw [if_neg hi]
            rfl
      refine ⟨acc.map celD, rfl, celD (rais fa c), ev, _, rfl, _, rfl, hs, q' _ ⟨acc ++ [rais fa c], some (.dat (celD c)), ?_, ?_⟩⟩
      · show [_, _, _, _, _, _, _, _, some (LV.own (acc.map celD ++ [celD (rais fa c)])), _, _] = [_, _, _, _, _, _, _, _, some (LV.own ((acc ++ [rais fa c]).map celD)), _, _]
        rw [List.map_append]
        rfl
      · rw [snoc]
        exact hf
    · obtain ⟨acc, x9, rfl, hf⟩ := i
      have hf : acc ++ [] = (st.take m).map (rais fa) := hf
      rw [List.append_nil] at hf
      subst hf
      have nst : nl (stD ((st.take m).map (rais fa) ++ st.drop m)) = true := nlAll_of fun d hd => by
        obtain ⟨c, _, rfl⟩ := List.mem_map.mp hd
        cases c <;> rfl
      refine ⟨stD ((st.take m).map (rais fa) ++ st.drop m), ?_, nst, R (some (.dat (.int (at1 : Int)))) (some (.dat (.int (pl : Int)))) (some (.dat (.int (m : Int)))) (some (.dat (stD ((st.take m).map (rais fa) ++ st.drop m)))) (some (.dat (.int fa))) (some (.own (((st.take m).map (rais fa)).map celD))) x9 none, rfl, fin _ _ _ b5 (loose_b (sg.up bt) gp lt (by omega) (by omega) (by omega) hfn) (by omega)⟩
      refine (ev_e2 (a := .tuple (((st.take m).map (rais fa)).map celD)) (b := .tuple ((st.map celD).drop m)) rfl (ev_sl (d := stD st) (l := some (m : Int)) rfl rfl rfl (sl_frm (by omega))) (add_tup (sz (by rw [List.length_map, List.length_map, List.length_take, List.length_drop]; omega)))).trans ?_
      unfold stD
      rw [List.map_append, List.map_drop]
end
end Dl
namespace Dl
open PySem PySem.Spec PyProof.Rows L2 Rt
/-! ### defs handed on as values: a def of two data each -/
abbrev Pks := Addr → Option (List D → Option D)
def SPk (Pk : Pks) : Addr → Option Sp := fun a => (Pk a).map (spD 2)
def eCallV (i : Nat) (Pk : Pks) (f : Rho → Option (List D)) : EF := fun ρ => match ρ[i]? with
  | some (some (.raw (.ref a))) => (Pk a).bind fun g => (f ρ).bind fun ds => gN 2 g ds
  | _ => none
/-- the first argument is a def that Pk knows, the others are data -/
def spF (n : Nat) (Pk : Pks) (G : (List D → Option D) → List D → Option D) : Sp := fun vs H Q _ => ∃ a ws g M ds d, vs = .ref a :: ws ∧ Pk a = some g ∧ Dom M H ∧ RpAll M H ws ds ∧ ds.length = n ∧ G g ds = some d ∧ ∀ v H', Same H H' → Rp M H' v d → Q v H'
section
variable {X : Cx}
theorem dE_callV {Pk : Pks} {k i : Nat} {x : Str} {p pos : Pos} {e : Expr} {es : List Expr} {f : Rho → Option (List D)} {μ : Bool} (A : ∀ f sp, SPk Pk f = some sp → Held X.prog X.w X.K X.mg X.base k f sp) (hr : Room k X.A) (hN : X.N[i]? = some x) (hv : Vis X.env.scope x) (ha : PA X (e :: es) (tA μ f))
    (hdb : (x == ("__debug__" : Str)) = false := by decide) (hcd : (x == ("__classdict__" : Str)) = false := by decide)
    (he : starEach (e :: es) X.env = (false, eval e X.env) :: starEach es X.env := by rfl) (hpl : (backTo pos (starEach es X.env)).any (·.1) = false := by rfl) : PE X (.Call (.Name x p) (e :: es) [] pos) (tD μ (eCallV i Pk f)) := (pe_callA A hr hN hv ha hdb hcd he hpl).wk fun σ H Q q => by
  obtain ⟨M0, H0, ρ, d, R, e, q⟩ := q
  unfold eCallV at e
  split at e
  · rename_i a z
    obtain ⟨g, eg, e⟩ := some_bind e
    obtain ⟨ds, ed, e⟩ := some_bind e
    unfold gN at e
    split at e
    · rename_i l
      exact ⟨a, spD 2 g, R.raw i _ z, by show (Pk a).map _ = _; rw [eg]; rfl, M0, H0, ρ, ds, R, ed, fun vs H1 s1 r1 => ⟨_, ds, d, (R.mono s1).domu μ, r1, l, e, fun v H2 s2 r2 => q v H2 (s1.trans s2) r2⟩⟩
    · cases e
  · cases e
/-- a call whose first argument is the def in a slot -/
def eCallF (i : Nat) (Pk : Pks) (n : Nat) (G : (List D → Option D) → List D → Option D) (f : Rho → Option (List D)) : EF := fun ρ => match ρ[i]? with
  | some (some (.raw (.ref a))) => (Pk a).bind fun g => (f ρ).bind fun ds => gN n (G g) ds
  | _ => none
theorem dE_clV {Pk : Pks} {G : (List D → Option D) → List D → Option D} {k n i : Nat} {x : Str} {ps : List Str} {p pos : Pos} {e e2 : Expr} {es : List Expr} {f : Rho → Option (List D)} {μ : Bool} (C : Cl X.prog X.w X.K X.mg X.base k x ps (spF n Pk G)) (hr : Room k X.A) (hg : Gl X x) (hi : PE X e (tVar i)) (ha : PA X (e2 :: es) (tA μ f))
    (hdb : (x == ("__debug__" : Str)) = false := by decide) (hs : starEach (e :: e2 :: es) X.env = (false, eval e X.env) :: starEach (e2 :: es) X.env := by rfl) (hpl : (backTo pos (starEach (e2 :: es) X.env)).any (·.1) = false := by rfl) :
    PE X (.Call (.Name x p) (e :: e2 :: es) [] pos) (tD μ (eCallF i Pk n G f)) := (pe_cl C hr hg (pa_cons hi ha hs) hdb hs hpl).wk fun σ H Q q => by
  obtain ⟨M0, H0, ρ, d, R, e, q⟩ := q
  unfold eCallF at e
  split at e
  · rename_i a z
    obtain ⟨g, eg, e⟩ := some_bind e
    obtain ⟨ds, ed, e⟩ := some_bind e
    unfold gN at e
    split at e
    · rename_i l
      refine ⟨.ref a, R.raw i _ z, M0, H0, ρ, ds, R, ed, fun vs H1 s1 r1 => ?_⟩
      exact ⟨a, _, g, _, ds, d, by rw [List.append_nil], eg, (R.mono s1).domu μ, r1, l, e, fun v H2 s2 r2 => q v H2 (s1.trans s2) r2⟩
    · cases e
  · cases e
/-- a call whose first argument is a def of the module -/
theorem dE_clD {Pk : Pks} {G : (List D → Option D) → List D → Option D} {g : List D → Option D} {a : Addr} {k n : Nat} {x : Str} {ps : List Str} {p pos : Pos} {e e2 : Expr} {es : List Expr} {f : Rho → Option (List D)} {μ : Bool} (C : Cl X.prog X.w X.K X.mg X.base k x ps (spF n Pk G)) (hk : Pk a = some g) (hr : Room k X.A) (hg : Gl X x) (hi : PE X e (tC (.ref a))) (ha : PA X (e2 :: es) (tA μ f))
    (hdb : (x == ("__debug__" : Str)) = false := by decide) (hs : starEach (e :: e2 :: es) X.env = (false, eval e X.env) :: starEach (e2 :: es) X.env := by rfl) (hpl : (backTo pos (starEach (e2 :: es) X.env)).any (·.1) = false := by rfl) :
    PE X (.Call (.Name x p) (e :: e2 :: es) [] pos) (tD μ (eCall (gN n (G g)) f)) := (pe_cl C hr hg (pa_cons hi ha hs) hdb hs hpl).wk fun σ H Q q => by
  obtain ⟨M0, H0, ρ, d, R, e, q⟩ := q
  obtain ⟨ds, ed, e⟩ := some_bind e
  unfold gN at e
  split at e
  · rename_i l
    refine ⟨M0, H0, ρ, ds, R, ed, fun vs H1 s1 r1 => ?_⟩
    exact ⟨a, _, g, _, ds, d, by rw [List.append_nil], hk, (R.mono s1).domu μ, r1, l, e, fun v H2 s2 r2 => q v H2 (s1.trans s2) r2⟩
  · cases e
end
/-! a def whose first parameter is a def -/
def startF (n : Nat) (a : Addr) (ds : List D) : Rho := some (.raw (.ref a)) :: (ds.map (fun d => some (.dat d)) ++ List.replicate (n - (ds.length + 1)) none)
theorem RpAll.startF {M : Addr → Prop} {H : Hp} {N : List Str} {a : Addr} {vs : List V} {ds : List D} (dm : Dom M H) (r : RpAll M H vs ds) : Rs M H H (L2.start N (.ref a :: vs)) (startF N.length a ds) := by
  have get : ∀ (i : Nat) (x : LV), (Dl.startF N.length a ds)[i]? = some (some x) → (i = 0 ∧ x = .raw (.ref a)) ∨ ∃ j d, i = j + 1 ∧ ds[j]? = some d ∧ x = .dat d := fun i x e => by
    cases i with
    | zero => cases e; exact .inl ⟨rfl, rfl⟩
    | succ j =>
      have e : (ds.map (fun d => some (LV.dat d)) ++ List.replicate (N.length - (ds.length + 1)) none)[j]? = some (some x) := e
      rw [List.getElem?_append] at e
      split at e
      · rw [List.getElem?_map] at e
        cases z : ds[j]? with
        | none => rw [z] at e; cases e
        | some d => rw [z] at e; cases e; exact .inr ⟨j, d, rfl, z, rfl⟩
      · rw [List.getElem?_replicate] at e
        split at e <;> cases e
  have mu : ∀ b, Mu true M (L2.start N (.ref a :: vs)) (Dl.startF N.length a ds) b → M b ∨ H b = none := fun b m => by
    rcases m with m | ⟨_, j, es, e, _⟩
    · exact .inl m
    · rcases get j _ e with ⟨_, z⟩ | ⟨_, _, _, _, z⟩ <;> cases z
  refine ⟨Same.refl _, dm, ?_, fun i d e => ?_, fun i es e => ?_, fun i v e => ?_, fun i j a b p e => ?_⟩
  · unfold Dl.startF L2.start
    simp [r.len]
  · rcases get i _ e with ⟨_, z⟩ | ⟨j, d', rfl, ed, z⟩
    · cases z
    · cases z
      obtain ⟨v, a', b⟩ := r.get ed
      refine ⟨v, ?_, b.reM mu⟩
      unfold L2.start
      rw [List.map_cons, List.cons_append, List.getElem?_cons_succ, List.getElem?_append, if_pos (by rw [List.length_map]; exact (List.getElem?_eq_some_iff.mp a').1), List.getElem?_map, a']
      rfl
  · rcases get i _ e with ⟨_, z⟩ | ⟨_, _, _, _, z⟩ <;> cases z
  · rcases get i _ e with ⟨rfl, z⟩ | ⟨_, _, _, _, z⟩
    · cases z; rfl
    · cases z
  · rcases get i _ e with ⟨_, z⟩ | ⟨_, _, _, _, z⟩ <;> cases z
theorem okFnF {P : Program} {w : World} {K : PySem.W.Frag} {mg : Str → Option Value} {base : Heap} {x qual : Str} {st : Stmt} {f : Addr} {fd : FuncData} {N ps : List Str} {k n : Nat} {Pk : Pks} {G : (List D → Option D) → List D → Option D} (F : Fun K x qual st f fd) (S : FnScope N ps (defScope st)) (hn : n + 1 = ps.length)
    (walk : ∀ (cdv : Value) (A : Around) (outer : List Env) (s : Shared) (H : Hp) (E : XK), Room k (A.deeper (envOfC qual (defScope st) s.heap.objs.size f cdv)) →
      ∃ fS, PSs (cxOf CX0 P w K mg base N qual (defScope st) f cdv A outer s H E).nox (defBody st) (tS fS) ∧ ∀ a g ds d, Pk a = some g → ds.length = n → G g ds = some d → ∃ o, fS (startF N.length a ds) = some o ∧ Tells o d) :
    FnOk P w K mg base CX0 (k + 1) f fd ps (spF n Pk G) := by
  refine F.ok S (fun vs H Q E h => ?_) (fun cdv A outer s H vs Q E hr h => ?_)
  · obtain ⟨a, ws, g, M, ds, d, rfl, _, _, r, l, _⟩ := h
    rw [← hn, ← l, ← r.len]
    rfl
  · obtain ⟨a, ws, g, M, ds, d, rfl, hk, dm, r, l, e, q⟩ := h
    obtain ⟨fS, hS, hw⟩ := walk cdv A outer s H E hr
    obtain ⟨o, eo, t⟩ := hw a g ds d hk l e
    refine ⟨_, hS, tS_iff.mpr ⟨M, H, _, o, r.startF dm, eo, ?_⟩⟩
    cases o with
    | nx ρ' => cases t; exact fun σ' H' R s => q _ _ R.sm .non
    | rt d' => cases t; exact fun v H' s r => q v H' s r
    | bk ρ' => exact t.elim
    | ct ρ' => exact t.elim
end Dl
namespace Dl
open PySem PySem.Spec PyProof.Rows L2 Rt
section
variable {X : Cx} {K : PySem.W.Frag}
/-- a list beside [] -/
def eqL0 : D → D → Option D
  | .list ds, .list [] => some (.bool ds.isEmpty)
  | _, _ => none
theorem o_eqL0 (hu : X.A.units + 64 < cLine) : OpR X (compareOp .Eq) (rD eqL0) := by
  intro pn s σ H x y v u Q I rx ry h
  obtain ⟨M, a, b, d, dm, ra, rb, e, q⟩ := h
  cases ra <;> (try (cases rb <;> cases e; done))
  rename_i xs ds t n l r
  cases rb <;> (try (cases e; done))
  rename_i xs2 ds2 t2 n2 l2 r2
  cases r2 <;> (try (cases e; done))
  cases e
  cases rx
  cases ry
  obtain ⟨_, its, k, vi, g⟩ := I.hok _ _ t
  obtain ⟨_, its2, k2, vi2, g2⟩ := I.hok _ _ t2
  cases vi2
  cases r with
  | nil =>
    cases vi
    refine SeqAt.RcAt.lists (e := fun _ => true) ⟨_, g, rfl, _, rfl⟩ ⟨_, g2, rfl, _, rfl⟩ rfl (by omega) (fun j h1 _ => absurd h1 (by simp)) _ _ _ _ ⟨.bl _, H, I, ?_, q _ _ (Same.refl _) (.bl _)⟩
    show Value.bool _ = Value.bool _
    simp
  | cons h1 h2 =>
    cases vi
    refine SeqAt.RcAt.lists_lengths ⟨_, g, rfl, _, rfl⟩ ⟨_, g2, rfl, _, rfl⟩ (by simp) (by omega) _ _ _ _ ⟨.bl _, H, I, ?_, q _ _ (Same.refl _) (.bl _)⟩
    rfl
/-- == and != : beside (), [], a text whatever stands there; else by data -/
def eqZ : D → D → Option D
  | .tuple ds, .tuple [] => eqT0 (.tuple ds) (.tuple [])
  | .list ds, .list [] => eqL0 (.list ds) (.list [])
  | a, b => eqD a b
theorem o_eqZ (hu : X.A.units + 64 < cLine) : OpR X (compareOp .Eq) (rD eqZ) := by
  intro pn s σ H x y v u Q I rx ry h
  obtain ⟨M, a, b, d, dm, ra, rb, e, q⟩ := h
  unfold eqZ at e
  split at e
  · exact o_eqT0 hu pn s σ H _ _ v u Q I rx ry ⟨M, _, _, d, dm, ra, rb, e, q⟩
  · exact o_eqL0 hu pn s σ H _ _ v u Q I rx ry ⟨M, _, _, d, dm, ra, rb, e, q⟩
  · exact o_eq hu pn s σ H _ _ v u Q I rx ry ⟨M, _, _, d, dm, ra, rb, e, q⟩
def neZ : D → D → Option D
  | .tuple ds, .tuple [] => neT0 (.tuple ds) (.tuple [])
  | .list ds, .list [] => neL0 (.list ds) (.list [])
  | a, b => neQ a b
theorem o_neZ (hu : X.A.units + 64 < cLine) : OpR X (compareOp .NotEq) (rD neZ) := by
  intro pn s σ H x y v u Q I rx ry h
  obtain ⟨M, a, b, d, dm, ra, rb, e, q⟩ := h
  unfold neZ at e
  split at e
  · exact o_neT0 hu pn s σ H _ _ v u Q I rx ry ⟨M, _, _, d, dm, ra, rb, e, q⟩
  · exact o_neL0 hu pn s σ H _ _ v u Q I rx ry ⟨M, _, _, d, dm, ra, rb, e, q⟩
  · exact o_neQ hu pn s σ H _ _ v u Q I rx ry ⟨M, _, _, d, dm, ra, rb, e, q⟩
/-- list(range(a, b)) -/
def eLstRg2 (f g : EF) : EF := fun ρ => (f ρ).bind fun a => (g ρ).bind fun b => match a, b with
  | .int i, .int j => if -(2 ^ 62) ≤ i ∧ i < 2 ^ 62 ∧ -(2 ^ 62) ≤ j ∧ j < 2 ^ 62 ∧ j - i < 2 ^ 20 then some (.list (rgD i (j - i).toNat)) else none
  | _, _ => none
theorem rgV_rp2 {M : Addr → Prop} {H : Hp} (i j : Int) : RpAll M H (rgV i j) (rgD i (j - i).toNat) := by
  unfold rgV rgD
  induction (List.range (j - i).toNat) with
  | nil => exact .nil
  | cons i r ih => exact .cons (.int _) ih
theorem dE_lstRg2 {e1 e2 : Expr} {p pos p2 pos2 : Pos} {f g : EF} {μ : Bool} (hc : X.calm = true) (hg : Gl X "list") (hm : X.mg "list" = none) (hg2 : Gl X "range") (hm2 : X.mg "range" = none) (h1 : PE X e1 (tD μ f)) (h2 : PE X e2 (tD μ g))
    (na : starEach [(Expr.Call (.Name "range" p2) [e1, e2] [] pos2)] X.env = (false, eval (Expr.Call (.Name "range" p2) [e1, e2] [] pos2) X.env) :: starEach [] X.env := by rfl)
    (nb : starEach [e1, e2] X.env = (false, eval e1 X.env) :: starEach [e2] X.env := by rfl) (nc : starEach [e2] X.env = (false, eval e2 X.env) :: starEach [] X.env := by rfl) (hp : (backTo pos2 (starEach [e2] X.env)).any (·.1) = false := by rfl) :
    PE X (.Call (.Name "list" p) [.Call (.Name "range" p2) [e1, e2] [] pos2] [] pos) (tD μ (eLstRg2 f g)) := (pe_listRg hc hg hm (prg_2 hg2 hm2 h1 h2 nb nc hp) na).wk fun σ H Q q => by
  obtain ⟨M0, H0, ρ, d, R, e, q⟩ := q
  obtain ⟨a, ea, e'⟩ := some_bind e
  obtain ⟨b, eb, e''⟩ := some_bind e'
  clear e e'
  refine ⟨M0, H0, ρ, a, R, ea, fun x H1 s1 r1 => ⟨M0, H0, ρ, b, R.mono s1, eb, fun y H2 s2 r2 => ?_⟩⟩
  cases a <;> try (cases e''; done)
  cases b <;> try (cases e''; done)
  rename_i i j
  obtain ⟨l, rfl⟩ := iteS e''
  cases r1
  cases r2
  exact ⟨i, j, rfl, rfl, ⟨l.1, l.2.1, l.2.2.1, l.2.2.2.1, by omega⟩, fun q' np => q _ _ ((s1.trans s2).trans (smN np)) (.lst upd_same (((R.mono (s1.trans s2)).domu μ).not np) (by rw [rgV_length]; exact szR (by omega)) (rgV_rp2 i j))⟩
/-- a new list that may be made by looking at lists of one's own -/
def wFr (f : EF) : WP D := ⟨fun ρ b Q => ∃ ds, f (shutR false ρ) = some (.list ds) ∧ nlAll ds = true ∧ Q (.list ds) b, fun h ⟨d, e, n, q⟩ => ⟨d, e, n, h _ _ q⟩⟩
theorem nFr {f : EF} {σ : L2.St} {H : Hp} {Q : VK} (q : tn (wFr f) σ H Q) : tN f σ H Q := by
  obtain ⟨g, M0, H0, ρ, b, R, ds, e, n, q⟩ := q
  refine ⟨_, H, _, ds, R.rs false, e, fun p vs H' np s eH l r => q _ H' (.of s) (Pl.same R.iv s) (.lst eH ((R.domu true).not np) l ((r.reM (M' := M0) fun a m => .inl (.inl (.inl (.inl m)))).nl n fun a m => ?_))⟩
  rcases m with m | ⟨_, i, ds, e1, e2⟩
  · exact .inl m
  · obtain ⟨p, vs, x, y, _⟩ := (R.mono s).own i ds e1
    rw [e2] at x
    cases x
    exact .inr ⟨_, y⟩
theorem nS_lcL {st : Stmt} {i : Nat} {it : Rho → Option (List D)} {p : Pat} {c : Rho → Option Bool} {f : EF} {vs : List Nat} {μi pr : Bool} (h : PS X st (tAsg (tLc (iD true pr it) (gP K p) (tT c) (tD μi f) vs) (gName i))) (hp : p.fits pr = true := by rfl) (hs : ∀ j, j ∈ slP p → j ∈ vs := by decide) : PS X st (tSn (swAsg (.nm i) (wFr (eLc true vs it p c f)))) :=
  nS_asg (K := K) (h.wk fun Dn σ H q => nLc hp hs (nFr q))
/-- a, b = two new lists, through a tuple -/
def swParT (i j : Nat) (f g : EF) : WP Out := ⟨fun ρ b Q => ∃ ds es, f (shutR true ρ) = some (.list ds) ∧ g (shutR true ρ) = some (.list es) ∧ i < ρ.length ∧ j < ρ.length ∧ i ≠ j ∧ Q (.nx ((ρ.set i (some (.own ds))).set j (some (.own es)))) b, fun h ⟨ds, es, a, b, c, d, n, q⟩ => ⟨ds, es, a, b, c, d, n, h _ _ q⟩⟩
theorem nS_parT {st : Stmt} {i j : Nat} {f g : EF} (h : PS X st (tAsg (tTupF (tCons (tN f) (tCons (tN g) tNil))) (gP K (.tp (.cons (.nm i) (.cons (.nm j) .nil)))))) : PS X st (tSn (swParT i j f g)) := h.wk fun Dn σ H q => by
  obtain ⟨pl, M0, H0, ρ, b, R, ds, es, ef, eg, hi, hj, hij, q⟩ := q
  have Rs1 := R.rs true
  refine ⟨_, H, _, ds, Rs1, ef, fun p1 vs H1 np1 s1 eH1 l1 r1 => ?_⟩
  have no : ∀ a, Mu true (fun a => Mu true M0 σ ρ a ∨ a = p1) σ (shutR true ρ) a → Mu true M0 σ ρ a ∨ a = p1 := fun a m => by
    rcases m with m | ⟨_, i, ds, e, _⟩
    · exact m
    · exact (shut_nown e).elim
  have Rs2 : Rs (fun a => Mu true M0 σ ρ a ∨ a = p1) H1 H1 σ (shutR true ρ) := by
    refine ⟨Same.refl _, fun p m => ?_, Rs1.len, fun k d e => ?_, fun k ds e => (shut_nown e).elim, Rs1.raw, fun k l a b p e => (shut_nown e).elim⟩
    · rcases m with m | rfl
      · exact ((R.domu true).mono s1) p m
      · rw [eH1]; intro z; cases z
    · obtain ⟨v, a, c⟩ := Rs1.dat k d e
      refine ⟨v, a, (c.reM fun a m => ?_).mono (.of s1)⟩
      rcases no a m with m | rfl
      · exact .inl (.inl m)
      · exact .inr np1
  refine ⟨_, H1, _, es, Rs2, eg, fun p2 ws H2 np2 s2 eH2 l2 r2 => ?_⟩
  refine ⟨by show 2 ≤ sizeLine; decide, fun p3 H3 np3 s3 t3 => ⟨p3, _, rfl, t3.sq, rfl, _, _, rfl, _, _, rfl, rfl, ?_⟩⟩
  obtain ⟨R1, st1⟩ := R.ownNew (i := i) hi np1 (.of s1) (Pl.same R.iv s1) eH1 l1 (r1.reM fun a m => by
    rcases m with m | rfl
    · exact .inl (.inl (.inl m))
    · exact .inl (.inr rfl))
  obtain ⟨R2, st2⟩ := R1.ownNew (i := j) (by rw [List.length_set]; exact hj) np2 (.of s2) (Pl.same R1.iv s2) eH2 l2 (r2.reM fun a m => by
    rcases m with m | rfl
    · refine .inl (.inl (.inl ?_))
      rcases m with m | ⟨_, k, es', e1, e2⟩
      · exact .inl (.inl m)
      · rcases set_get e1 with ⟨rfl, _⟩ | ⟨n, e1⟩
        · rw [set_same (by rw [← R.len]; exact hi)] at e2
          cases e2
          exact .inr rfl
        · rw [set_other n] at e2
          exact .inl (.inr ⟨rfl, k, es', e1, e2⟩)
    · exact .inl (.inr rfl))
  exact q _ H3 (R2.mono s3) ((st1.trans st2).trans ⟨.of s3, fun p m => .inl m⟩)
/-- a, b = a list of two -/
def swAsgL (ps : Pats) (f : WP D) : WP Out := ⟨fun ρ b Q => f.w ρ b fun d b' => ∃ ds ρ1, d = .list ds ∧ bindPs ps ds ρ = some ρ1 ∧ Q (.nx ρ1) b', fun h z => f.m (fun d b' ⟨ds, ρ1, e, e1, y⟩ => ⟨ds, ρ1, e, e1, h _ _ y⟩) z⟩
theorem nS_asgL {st : Stmt} {ps : Pats} {f : WP D} (h : PS X st (tAsg (tn f) (gLst K ps.len (gPs K ps)))) : PS X st (tSn (swAsgL ps f)) := h.wk fun Dn σ H q => by
  obtain ⟨g, M0, H0, ρ, b, R, q⟩ := q
  refine ⟨g, M0, H0, ρ, b, R, f.m (fun d b' ⟨ds, ρ1, e, e1, q⟩ v H1 k1 i1 r1 => ?_) q⟩
  subst e
  cases r1
  rename_i a xs t n l r
  exact ⟨_, xs, rfl, SqL.of t, by rw [r.len]; exact bindPs.len e1, bindPs.okN (R.up k1 i1) r e1 fun σ1 R1 B1 => q σ1 H1 R1 ((R.stp k1).trans ⟨.refl, fun p m => .inl (B1.mu p m)⟩)⟩
def sAsgL (ps : Pats) (f : EF) : Rho → Option Out := fun ρ => (f ρ).bind fun d => match d with
  | .list ds => (bindPs ps ds ρ).map .nx
  | _ => none
theorem dS_asgL {st : Stmt} {ps : Pats} {f : EF} (h : PS X st (tAsg (tD true f) (gLst K ps.len (gPs K ps)))) : PS X st (tS (sAsgL ps f)) := h.wk fun Dn σ H q => by
  obtain ⟨M0, H0, ρ, o, R, e, q⟩ := q
  obtain ⟨d, ed, e'⟩ := some_bind e
  clear e
  refine ⟨M0, H0, ρ, d, R, ed, fun v H1 s1 r1 => ?_⟩
  cases d <;> try (cases e'; done)
  obtain ⟨ρ1, e1, rfl⟩ := some_map e'
  cases r1
  rename_i a xs t n l r
  exact ⟨_, xs, rfl, SqL.of t, by rw [r.len]; exact bindPs.len e1, bindPs.ok (R.mono s1) r e1 fun σ1 R1 B1 => q σ1 H1 R1 ⟨.of s1, fun p m => .inl (B1.mu p m)⟩⟩
theorem ev_asgL {ps : Pats} {f : EF} {g : Rho → Option Out} {ρ ρ' : Rho} {ds : List D} (hf : f ρ = some (.list ds)) (hb : bindPs ps ds ρ = some ρ') : sSeq (sAsgL ps f) g ρ = g ρ' := by
  unfold sSeq sAsgL
  rw [hf]
  show ((bindPs ps ds ρ).map Out.nx).bind _ = _
  rw [hb]
  rfl
/-- a walk over a list that is drawn -/
def lisI : D → Option (List D)
  | .list ds => some ds
  | _ => none
theorem nI_lst {tg e : Expr} {f : WP D} (h : PE X e (tn f)) : PI X tg e (inn false (wB f lisI)) := (pi_list h).wk fun σ H R q => by
  obtain ⟨p, M0, H0, ρ, b, Rr, q⟩ := q
  refine ⟨p, M0, H0, ρ, b, Rr, f.m (fun d b1 ⟨ds, e, q⟩ v H1 k1 i1 r1 => ?_) q⟩
  cases d <;> try (cases e; done)
  cases e
  cases r1 with
  | lst t n l r => exact ⟨_, rfl, ⟨_, SqL.of t⟩, q _ _ k1 i1 fun M' hM => DW.lst t (nM hM n t) l (r.reM hM)⟩
/-- a statement that is never come to -/
def sNo : Rho → Option Out := fun _ => none
theorem dS_no {st : Stmt} : PS X st (tS sNo) := ⟨fun pn s σ H Q I q => by
  obtain ⟨M0, H0, ρ, o, R, e, q⟩ := q
  cases e⟩
end
end Dl
namespace Dl
open PySem PySem.Spec PyProof.Rows L2 Rt
/-! ### cells beside cells -/
def abO : Option Int → Option Int → Bool
  | none, some _ => true
  | some i, some j => decide (i > j)
  | _, none => false
def hiC (a b : Option Int) : Option Int := if abO a b = true then a else b
def loC (a b : Option Int) : Option Int := if abO a b = true then b else a
theorem abv_cel (a b : Option Int) : abv (celD a) (celD b) = abO a b := by
  cases a <;> cases b <;> rfl
theorem noI_cel (a : Option Int) : noI (celD a) = true := by cases a <;> rfl
def sHi : List D → Option D
  | [a, b] => if (noI a && noI b) = true then some (if abv a b = true then a else b) else none
  | _ => none
def sLo : List D → Option D
  | [a, b] => if (noI a && noI b) = true then some (if abv a b = true then b else a) else none
  | _ => none
theorem hi_cel (a b : Option Int) : gN 2 sHi [celD a, celD b] = some (celD (hiC a b)) := by
  show (if (noI (celD a) && noI (celD b)) = true then some (if abv (celD a) (celD b) = true then celD a else celD b) else none) = _
  rw [noI_cel, noI_cel, show (true && true) = true from rfl, if_pos rfl, abv_cel]
  unfold hiC
  split <;> rfl
theorem lo_cel (a b : Option Int) : gN 2 sLo [celD a, celD b] = some (celD (loC a b)) := by
  show (if (noI (celD a) && noI (celD b)) = true then some (if abv (celD a) (celD b) = true then celD b else celD a) else none) = _
  rw [noI_cel, noI_cel, show (true && true) = true from rfl, if_pos rfl, abv_cel]
  unfold loC
  split <;> rfl
def zp2 (g : List D → Option D) : List D → List D → Option (List D)
  | x :: xs, y :: ys => (gN 2 g [x, y]).bind fun a => (zp2 g xs ys).map (a :: ·)
  | _, _ => some []
theorem ev_zp {i j : Nat} {f : EF} {ρ : Rho} {g : List D → Option D} (hi : i < ρ.length) (hj : j < ρ.length) (h : ∀ x y d, gN 2 g [x, y] = some d → f ((ρ.set i (some (.dat x))).set j (some (.dat y))) = some d) : ∀ (xs ys r : List D), zp2 g xs ys = some r → lcGo (.tp (.cons (.nm i) (.cons (.nm j) .nil))) oYes f ρ (zpGo xs ys) = some r
  | [], ys, r, e => by
    cases e
    cases ys <;> rfl
  | x :: xs, [], r, e => by
    cases e
    rfl
  | x :: xs, y :: ys, r, e => by
    obtain ⟨a, ea, e⟩ := some_bind (show (gN 2 g [x, y]).bind (fun a => (zp2 g xs ys).map (a :: ·)) = some r from e)
    obtain ⟨s, es, rfl⟩ := some_map e
    have e1 : bindP (.tp (.cons (.nm i) (.cons (.nm j) .nil))) (.tuple [x, y]) ρ = some ((ρ.set i (some (.dat x))).set j (some (.dat y))) := by
      show (bindP (.nm i) x ρ).bind _ = _
      unfold bindP
      rw [if_pos hi]
      show (bindP (.nm j) y _).bind _ = _
      unfold bindP
      rw [if_pos (by rw [List.length_set]; exact hj)]
      rfl
    show (bindP _ (.tuple [x, y]) ρ).bind _ = _
    rw [e1]
    show (f _).bind _ = _
    rw [h x y a ea]
    show (lcGo _ _ _ _ (zpGo xs ys)).map _ = _
    rw [ev_zp hi hj h xs ys s es]
    rfl
theorem zp2_map {α β γ : Type} {g : List D → Option D} {e1 : α → D} {e2 : β → D} {e3 : γ → D} {fn : α → β → γ} (h : ∀ a b, gN 2 g [e1 a, e2 b] = some (e3 (fn a b))) : ∀ (as : List α) (bs : List β), zp2 g (as.map e1) (bs.map e2) = some ((List.zipWith fn as bs).map e3)
  | [], bs => by cases bs <;> rfl
  | a :: as, [] => rfl
  | a :: as, b :: bs => by
    show (gN 2 g [e1 a, e2 b]).bind _ = _
    rw [h a b]
    show (zp2 g (as.map e1) (bs.map e2)).map _ = _
    rw [zp2_map h as bs]
    rfl
def gRows (g : List D → Option D) : List D → Option D
  | [.tuple xs, .tuple ys] => (zp2 g xs ys).map .tuple
  | _ => none
def gCbc (g : List D → Option D) : List D → Option D := gRows (gRows (gRows g))
def zipT (fn : Option Int → Option Int → Option Int) (A B : Tb) : Tb := List.zipWith (List.zipWith (List.zipWith fn)) A B
theorem cbc_map {g : List D → Option D} {fn : Option Int → Option Int → Option Int} (h : ∀ a b, gN 2 g [celD a, celD b] = some (celD (fn a b))) (A B : Tb) : gN 2 (gCbc g) [tbD A, tbD B] = some (tbD (zipT fn A B)) := by
  have h1 : ∀ r s : List (Option Int), gN 2 (gRows g) [stD r, stD s] = some (stD (List.zipWith fn r s)) := fun r s => by
    show (zp2 g (r.map celD) (s.map celD)).map PyData.tuple = _
    rw [zp2_map h]
    rfl
  have h2 : ∀ r s : List (List (Option Int)), gN 2 (gRows (gRows g)) [rwD r, rwD s] = some (rwD (List.zipWith (List.zipWith fn) r s)) := fun r s => by
    show (zp2 (gRows g) (r.map stD) (s.map stD)).map PyData.tuple = _
    rw [zp2_map h1]
    rfl
  show (zp2 (gRows (gRows g)) (A.map rwD) (B.map rwD)).map PyData.tuple = _
  rw [zp2_map h2]
  rfl
def SWin : Sem (Tb × Tb) where
  enc := fun (a, b) => [tbD a, tbD b]
  ok := fun _ => True
  out := fun (a, b) => .bool (decide (zipT hiC a b = a))
  fn := fun {x y} _ _ e => by
    obtain ⟨a, b⟩ := x
    obtain ⟨a', b'⟩ := y
    injection e with e1 e
    injection e with e2 e
    cases tbD.inj e1
    cases tbD.inj e2
    rfl
def SBoth (fn : Option Int → Option Int → Option Int) : Sem (D × Tb × Tb) where
  enc := fun (w, a, b) => [w, tbD a, tbD b]
  ok := fun _ => True
  out := fun (_, a, b) => tbD (zipT fn a b)
  fn := fun {x y} _ _ e => by
    obtain ⟨w, a, b⟩ := x
    obtain ⟨w', a', b'⟩ := y
    injection e with e1 e
    injection e with e2 e
    injection e with e3 e
    cases tbD.inj e2
    cases tbD.inj e3
    rfl
section
variable {P : Program} {w : World} {K : PySem.W.Frag} {mg : Str → Option Value} {base : Heap}
theorem ok_higher {f : Addr} {fd : FuncData} (F : Fun K "higher_cell" "higher_cell" s_higher_cell f fd) (C_is_above : Cl P w K mg base 1 "is_above" ["one", "other"] (spD 2 sAbv)) : FnOk P w K mg base CX0 2 f fd ["one", "other"] (spD 2 sHi) := by
  refine okFn F sc_higher_cell rfl fun cdv A outer s H E hr => ⟨_, (dSs_one (dS_ret (ps_ret (dE_if (dT_val (dE_cl C_is_above (hr.mono (by omega)) (by rfl) (dA_cons (dE_var (μ := true) (pv 0)) (dA_cons (dE_var (μ := true) (pv 1)) (dA_nil (μ := true)))))) (dE_var (μ := true) (pv 0)) (dE_var (μ := true) (pv 1)))))), fun ds d l e => ?_⟩
  match ds, e with
  | [a, b], e =>
    obtain ⟨h, rfl⟩ := iteS e
    refine ⟨.rt (if abv a b = true then a else b), ev_ret ?_, rfl⟩
    have ec : sAbv [a, b] = some (.bool (abv a b)) := if_pos h
    have e2 : oB (eCall (gN 2 sAbv) (aCons (eVar 0) (aCons (eVar 1) aNil))) [some (.dat a), some (.dat b)] = some (abv a b) := ev_oB (ev_call (ds := [a, b]) rfl rfl ec)
    show (oB (eCall (gN 2 sAbv) (aCons (eVar 0) (aCons (eVar 1) aNil))) [some (.dat a), some (.dat b)]).bind _ = _
    rw [e2]
    show (if abv a b = true then _ else _) = _
    split <;> rfl
theorem ok_rowsC {Pk : Pks} {f : Addr} {fd : FuncData} (F : Fun K "rows_by_cell" "rows_by_cell" s_rows_by_cell f fd) (m_tuple : mg "tuple" = none) (m_zip : mg "zip" = none) (hA : ∀ f sp, SPk Pk f = some sp → Held P w K mg base 2 f sp) : FnOk P w K mg base CX0 3 f fd ["choose", "row", "beside"] (spF 2 Pk gRows) := by
  refine okFnF F sc_rows_by_cell rfl fun cdv A outer s H E hr => ⟨_, (dSs_one (dS_ret (ps_ret (dE_callTy c_tuple (by rfl) m_tuple (by decide +kernel) (dA_cons (dE_lc (K := K) (p := (.tp (.cons (.nm 3) (.cons (.nm 4) .nil)))) (pe_lc (own := [("cell", 3), ("counter", 4)]) (g := gP K (.tp (.cons (.nm 3) (.cons (.nm 4) .nil)))) rfl sc_rows_by_cell.nd (dI_zip (by rfl) m_zip (dA_cons (dE_var (μ := true) (pv 1)) (dA_cons (dE_var (μ := true) (pv 2)) (dA_nil (μ := true))))) (blkOk_by (own := [("cell", 3), ("counter", 4)]) (N := ["choose", "row", "beside", "cell", "counter"]) (sc := defScope s_rows_by_cell) (by decide +kernel)) (fun _ _ _ _ _ => (pg_tup (by rfl) (pgs_cons (pg_name (i := 3) sc_rows_by_cell.nd rfl (.inl rfl)) (pgs_cons (pg_name (i := 4) sc_rows_by_cell.nd rfl (.inl rfl)) pgs_nil)))) (fun _ _ _ _ _ => dTs_nil) (fun _ _ _ _ _ => (dE_callV (i := 0) hA (hr.mono (by omega)) (by rfl) (by first | exact Or.inl rfl | exact Or.inr (Or.inl rfl) | exact Or.inr (Or.inr rfl)) (dA_cons (dE_var (μ := true) (pv 3)) (dA_cons (dE_var (μ := true) (pv 4)) (dA_nil (μ := true)))))))) (dA_nil (μ := true))))))), fun a g ds d hk l e => ?_⟩
  unfold gRows at e
  split at e
  · rename_i xs ys
    obtain ⟨r, er, rfl⟩ := some_map e
    refine ⟨.rt (.tuple r), ev_ret ?_, rfl⟩
    let R : Rho := [some (.raw (.ref a)), some (.dat (.tuple xs)), some (.dat (.tuple ys)), none, none]
    have e1 := ev_zp (i := 3) (j := 4) (f := eCallV 0 Pk (aCons (eVar 3) (aCons (eVar 4) aNil))) (ρ := R) (g := g) (by show 3 < 5; decide) (by show 4 < 5; decide) (fun x y d h => by
      show (Pk a).bind _ = _
      rw [hk]
      exact h) xs ys r er
    exact (congrArg (fun o : Option (List D) => o.bind tupD) (ev_cons (ev_lcE (items := zpGo xs ys) rfl e1) rfl)).trans rfl
  · cases e
theorem ok_cbc {Pk : Pks} {f : Addr} {fd : FuncData} (F : Fun K "cell_by_cell" "cell_by_cell" s_cell_by_cell f fd) (m_tuple : mg "tuple" = none) (m_zip : mg "zip" = none) (C_rows_by_cell : Cl P w K mg base 3 "rows_by_cell" ["choose", "row", "beside"] (spF 2 Pk gRows)) : FnOk P w K mg base CX0 4 f fd ["choose", "one", "other"] (spF 2 Pk gCbc) := by
  refine okFnF F sc_cell_by_cell rfl fun cdv A outer s H E hr => ⟨_, (dSs_one (dS_ret (ps_ret (dE_callTy c_tuple (by rfl) m_tuple (by decide +kernel) (dA_cons (dE_lc (K := K) (p := (.tp (.cons (.nm 3) (.cons (.nm 4) .nil)))) (pe_lc (own := [("rows", 3), ("besides", 4)]) (g := gP K (.tp (.cons (.nm 3) (.cons (.nm 4) .nil)))) rfl sc_cell_by_cell.nd (dI_zip (by rfl) m_zip (dA_cons (dE_var (μ := true) (pv 1)) (dA_cons (dE_var (μ := true) (pv 2)) (dA_nil (μ := true))))) (blkOk_by (own := [("rows", 3), ("besides", 4)]) (N := ["choose", "one", "other", "rows", "besides", "row", "beside"]) (sc := defScope s_cell_by_cell) (by decide +kernel)) (fun _ _ _ _ _ => (pg_tup (by rfl) (pgs_cons (pg_name (i := 3) sc_cell_by_cell.nd rfl (.inl rfl)) (pgs_cons (pg_name (i := 4) sc_cell_by_cell.nd rfl (.inl rfl)) pgs_nil)))) (fun _ _ _ _ _ => dTs_nil) (fun _ _ _ _ _ => (dE_callTy c_tuple (by rfl) m_tuple (by decide +kernel) (dA_cons (dE_lc (K := K) (p := (.tp (.cons (.nm 5) (.cons (.nm 6) .nil)))) (pe_lc (own := [("row", 5), ("beside", 6)]) (g := gP K (.tp (.cons (.nm 5) (.cons (.nm 6) .nil)))) rfl sc_cell_by_cell.nd (dI_zip (by rfl) m_zip (dA_cons (dE_var (μ := true) (pv 3)) (dA_cons (dE_var (μ := true) (pv 4)) (dA_nil (μ := true))))) (by exact blkOk_by (own := [("row", 5), ("beside", 6)]) (by rfl)) (fun _ _ _ _ _ => (pg_tup (by rfl) (pgs_cons (pg_name (i := 5) sc_cell_by_cell.nd rfl (.inl rfl)) (pgs_cons (pg_name (i := 6) sc_cell_by_cell.nd rfl (.inl rfl)) pgs_nil)))) (fun _ _ _ _ _ => dTs_nil) (fun _ _ _ _ _ => (dE_clV C_rows_by_cell (hr.mono (by omega)) (by rfl) (pv 0) (dA_cons (dE_var (μ := true) (pv 5)) (dA_cons (dE_var (μ := true) (pv 6)) (dA_nil (μ := true)))))))) (dA_nil (μ := true))))))) (dA_nil (μ := true))))))), fun a g ds d hk l e => ?_⟩
  unfold gCbc at e
  have e0 := e
  unfold gRows at e
  split at e
  · rename_i xs ys
    obtain ⟨r, er, rfl⟩ := some_map e
    refine ⟨.rt (.tuple r), ev_ret ?_, rfl⟩
    let R : Option LV → Option LV → Rho := fun x y => [some (.raw (.ref a)), some (.dat (.tuple xs)), some (.dat (.tuple ys)), x, y, none, none]
    have key : ∀ x y d, gN 2 (gRows (gRows g)) [x, y] = some d → eCall tupD (aCons (eLc true [5, 6] (itG zpD (aCons (eVar 3) (aCons (eVar 4) aNil))) (.tp (.cons (.nm 5) (.cons (.nm 6) .nil))) oYes (eCallF 0 Pk 2 gRows (aCons (eVar 5) (aCons (eVar 6) aNil)))) aNil) (R (some (.dat x)) (some (.dat y))) = some d := fun x y d h => by
      have h : gRows (gRows g) [x, y] = some d := h
      unfold gRows at h
      split at h
      · rename_i xs' ys' hh
        injection hh with h1 hh
        injection hh with h2 hh
        subst h1
        subst h2
        obtain ⟨r', er', rfl⟩ := some_map h
        have e1 := ev_zp (i := 5) (j := 6) (f := eCallF 0 Pk 2 gRows (aCons (eVar 5) (aCons (eVar 6) aNil))) (ρ := R (some (.dat (.tuple xs'))) (some (.dat (.tuple ys')))) (g := gRows g) (by show 5 < 7; decide) (by show 6 < 7; decide) (fun x y d h => by
          show (Pk a).bind _ = _
          rw [hk]
          exact h) xs' ys' r' er'
        exact (congrArg (fun o : Option (List D) => o.bind tupD) (ev_cons (ev_lcE (items := zpGo xs' ys') rfl e1) rfl)).trans rfl
      · cases h
    have e1 := ev_zp (i := 3) (j := 4) (f := eCall tupD (aCons (eLc true [5, 6] (itG zpD (aCons (eVar 3) (aCons (eVar 4) aNil))) (.tp (.cons (.nm 5) (.cons (.nm 6) .nil))) oYes (eCallF 0 Pk 2 gRows (aCons (eVar 5) (aCons (eVar 6) aNil)))) aNil)) (ρ := R none none) (g := gRows (gRows g)) (by show 3 < 7; decide) (by show 4 < 7; decide) key xs ys r er
    exact (congrArg (fun o : Option (List D) => o.bind tupD) (ev_cons (ev_lcE (items := zpGo xs ys) rfl e1) rfl)).trans rfl
  · cases e
end
end Dl
namespace Dl
open PySem PySem.Spec PyProof.Rows L2 Rt
section
variable {P : Program} {w : World} {K : PySem.W.Frag} {mg : Str → Option Value} {base : Heap}
theorem ok_both {Pk : Pks} {f : Addr} {fd : FuncData} (F : Fun K "both" "both" s_both f fd) {f_higher_cell : Addr} (g_higher_cell : mg "higher_cell" = some (.ref f_higher_cell)) (k_higher_cell : Pk f_higher_cell = some sHi) (C_cell_by_cell : Cl P w K mg base 4 "cell_by_cell" ["choose", "one", "other"] (spF 2 Pk gCbc)) : FnOk P w K mg base CX0 5 f fd ["world", "one", "other"] (spD 3 (SBoth hiC).f) := by
  refine okFn F sc_both rfl fun cdv A outer s H E hr => ⟨_, (dSs_one (dS_ret (ps_ret (dE_clD C_cell_by_cell k_higher_cell (hr.mono (by omega)) (by rfl) (pe_glob (v := .ref f_higher_cell) (by rfl) g_higher_cell rfl) (dA_cons (dE_var (μ := true) (pv 1)) (dA_cons (dE_var (μ := true) (pv 2)) (dA_nil (μ := true)))))))), fun ds d l e => ?_⟩
  obtain ⟨⟨x, a, b⟩, _, rfl, rfl⟩ := Sem.get e
  exact ⟨.rt (tbD (zipT hiC a b)), ev_ret (ev_call (ds := [tbD a, tbD b]) rfl rfl (cbc_map hi_cel a b)), rfl⟩
end
end Dl
namespace Dl
open PySem PySem.Spec PyProof.Rows L2 Rt
/-! ### the closed table is shut, and the least of such -/
theorem fold_pM {α : Type} {P : Tb → Prop} {f : Tb → α → Tb} : ∀ (xs : List α) (t : Tb), P t → (∀ x ∈ xs, ∀ t, P t → P (f t x)) → P (xs.foldl f t)
  | [], t, h, _ => h
  | x :: xs, t, h, hf => fold_pM xs (f t x) (hf x (by simp) t h) fun y hy => hf y (by simp [hy])
theorem fold_fix {X : Wd} {α : Type} {f : Tb → α → Tb} : ∀ (xs : List α) (t : Tb), Inv X t → (∀ x ∈ xs, ∀ t, Inv X t → Dn X t (f t x)) → xs.foldl f t = t → ∀ x ∈ xs, f t x = t
  | [], t, h, hf, e => fun x hx => nomatch hx
  | x :: xs, t, h, hf, e => by
    have d := hf x (by simp) t h
    have hf' : ∀ y ∈ xs, ∀ t, Inv X t → Dn X t (f t y) := fun y hy => hf y (by simp [hy])
    have e : xs.foldl f (f t x) = t := e
    have e1 : f t x = t := by
      rcases d.2 with z | z
      · exact z
      · have d2 := fold_dn xs (f t x) d.1 hf'
        rw [e] at d2
        rcases d2.2 with y | y
        · exact y.symm
        · omega
    rw [e1] at e
    intro y hy
    rcases List.mem_cons.mp hy with rfl | hy
    · exact e1
    · exact fold_fix xs t h hf' e y hy
structure Shut (X : Wd) (t : Tb) : Prop where
  b : ∀ r ∈ X.ss, brL X t r = false
  m : ∀ y ∈ X.ws, ∀ p ∈ y.hs, ∀ as, InW as y.ps → mdL X t y p as = false
theorem step_same {X : Wd} (hX : X.ok) {t : Tb} (h : Inv X t) {y : Wy} (hy : y ∈ X.ws) {p : Int} (hp : p ∈ y.hs) {as : List Int} (ha : InW as y.ps) (e : stepT X y p t as = t) : mdL X t y p as = false := by
  rw [← lk_md]
  unfold stepT at e
  cases em : mdT X t y p as with
  | none => rfl
  | some q =>
    obtain ⟨k, o, a⟩ := q
    rw [em] at e
    have n := h.n
    obtain ⟨hk, a0, a1, o0, o1⟩ := md_bd h.g (by unfold bnd; omega) hX hy hp ha em
    have e : (if hasC X t k o a = true then t else putT X t k o a) = t := e
    show (!hasC X t k o a) = false
    cases hc : hasC X t k o a with
    | true => rfl
    | false =>
      rw [hc] at e
      have e : putT X t k o a = t := e
      have := (put_inv h hX hk a0 a1 o0 o1 hc).2
      rw [e] at this
      omega
theorem pass_shut {X : Wd} (hX : X.ok) {t : Tb} (h : Inv X t) (e : passT X t = t) : ∀ y ∈ X.ws, ∀ p ∈ y.hs, ∀ as, InW as y.ps → mdL X t y p as = false := by
  have d3 : ∀ y ∈ X.ws, ∀ p ∈ y.hs, ∀ as ∈ chs y.ps, ∀ t, Inv X t → Dn X t (stepT X y p t as) := fun y hy p hp as ha t h => step_dn hX h hy hp (chs_mem.mp ha)
  have d2 : ∀ y ∈ X.ws, ∀ p ∈ y.hs, ∀ t, Inv X t → Dn X t ((chs y.ps).foldl (stepT X y p) t) := fun y hy p hp t h => fold_dn _ _ h (d3 y hy p hp)
  have d1 : ∀ y ∈ X.ws, ∀ t, Inv X t → Dn X t (y.hs.foldl (fun t p => (chs y.ps).foldl (stepT X y p) t) t) := fun y hy t h => fold_dn _ _ h (d2 y hy)
  intro y hy p hp as ha
  have e1 := fold_fix X.ws t h d1 e y hy
  have e2 := fold_fix y.hs t h (d2 y hy) e1 p hp
  have e3 := fold_fix (chs y.ps) t h (d3 y hy p hp) e2 as (chs_mem.mpr ha)
  exact step_same hX h hy hp ha e3
theorem step_le {X : Wd} (hX : X.ok) {t : Tb} (h : Inv X t) {y : Wy} (hy : y ∈ X.ws) {p : Int} (hp : p ∈ y.hs) {as : List Int} (ha : InW as y.ps) : Le X (stepT X y p t as) t := by
  unfold stepT
  cases em : mdT X t y p as with
  | none => exact .refl
  | some q =>
    obtain ⟨k, o, a⟩ := q
    have n := h.n
    obtain ⟨hk, a0, a1, o0, o1⟩ := md_bd h.g (by unfold bnd; omega) hX hy hp ha em
    show Le X (if hasC X t k o a = true then t else putT X t k o a) t
    split
    · exact .refl
    · exact put_le h.g hX hk a0
theorem pass_p {X : Wd} {P : Tb → Prop} (hs : ∀ y ∈ X.ws, ∀ p ∈ y.hs, ∀ as, InW as y.ps → ∀ t, P t → P (stepT X y p t as)) {t : Tb} (h : P t) : P (passT X t) := fold_pM _ _ h fun y hy t h => fold_pM _ _ h fun p hp t h => fold_pM _ _ h fun as ha t h => hs y hy p hp as (chs_mem.mp ha) t h
theorem cloI_p {X : Wd} {P : Tb → Prop} (hs : ∀ t, P t → P (passT X t)) : ∀ (n : Nat) (t : Tb), P t → P (cloI X n t)
  | 0, t, h => h
  | n + 1, t, h => by
    unfold cloI
    split
    · exact h
    · exact cloI_p hs n _ (hs t h)
def srcO (X : Wd) (r : Sr) : Int := r.s + (r.p - r.s) % X.n - r.a
theorem src_bd {X : Wd} (hX : X.ok) {r : Sr} (hr : r ∈ X.ss) : r.k ∈ X.ks ∧ 0 ≤ r.a ∧ r.a ≤ 26 ∧ -20 ≤ srcO X r ∧ srcO X r ≤ 1000010 := by
  have ro := hX.ss r hr
  have n1 := hX.n1
  have n6 := hX.n6
  have q0 := Int.emod_nonneg (r.p - r.s) (show X.n ≠ 0 by omega)
  have q1 := Int.emod_lt_of_pos (r.p - r.s) (show 0 < X.n by omega)
  have a0 := ro.a0
  have a1 := ro.a1
  have s0 := ro.s0
  have s1 := ro.s1
  unfold srcO
  exact ⟨ro.k, a0, by omega, by omega, by omega⟩
theorem src_step {X : Wd} (hX : X.ok) {r : Sr} (hr : r ∈ X.ss) {t : Tb} (h : Inv X t) : Inv X (putT X t r.k (srcO X r) r.a) := by
  obtain ⟨hk, a0, a1, o0, o1⟩ := src_bd hX hr
  exact put_inv0 h hX hk a0 a1 o0 (Int.le_trans o1 (by decide))
theorem clo_p {X : Wd} (hX : X.ok) {P : Tb → Prop} (hi : ∀ t, P t → Inv X t) (h1 : ∀ r ∈ X.ss, ∀ t, P t → P (putT X t r.k (srcO X r) r.a)) (hs : ∀ y ∈ X.ws, ∀ p ∈ y.hs, ∀ as, InW as y.ps → ∀ t, P t → P (stepT X y p t as)) {t : Tb} (h : P t) : P (cloT X t) :=
  cloI_p (fun t h => pass_p hs h) _ _ (show P (srcT X t) from fold_pM _ _ h h1)
theorem clo_le {X : Wd} (hX : X.ok) {t : Tb} (h : Inv X t) : Le X (cloT X t) t :=
  (clo_p (P := fun u => Inv X u ∧ Le X u t) hX (fun _ h => h.1) (fun r hr u hu => by
    obtain ⟨hk, a0, a1, o0, o1⟩ := src_bd hX hr
    exact ⟨src_step hX hr hu.1, (put_le hu.1.g hX hk a0).trans hu.2⟩) (fun y hy p hp as ha u hu => ⟨(step_dn hX hu.1 hy hp ha).1, (step_le hX hu.1 hy hp ha).trans hu.2⟩) ⟨h, .refl⟩).2
theorem src_has {X : Wd} (hX : X.ok) : ∀ (rs : List Sr), (∀ r ∈ rs, r ∈ X.ss) → ∀ t, Inv X t → ∀ r ∈ rs, hasC X (rs.foldl (fun t r => putT X t r.k (srcO X r) r.a) t) r.k (srcO X r) r.a = true
  | [], _, t, h, r, hr => nomatch hr
  | r0 :: rs, hrs, t, h, r, hr => by
    have h0 : r0 ∈ X.ss := hrs r0 (by simp)
    have i0 := src_step hX h0 h
    have hrs' : ∀ r ∈ rs, r ∈ X.ss := fun r hr => hrs r (by simp [hr])
    rcases List.mem_cons.mp hr with rfl | hr
    · obtain ⟨hk, a0, a1, o0, o1⟩ := src_bd hX h0
      have l : Le X (rs.foldl (fun t r => putT X t r.k (srcO X r) r.a) (putT X t r.k (srcO X r) r.a)) (putT X t r.k (srcO X r) r.a) := (fold_pM (P := fun u => Inv X u ∧ Le X u (putT X t r.k (srcO X r) r.a)) rs _ ⟨i0, .refl⟩ fun r' hr' u hu => by
        obtain ⟨hk', a0', _⟩ := src_bd hX (hrs' r' hr')
        exact ⟨src_step hX (hrs' r' hr') hu.1, (put_le hu.1.g hX hk' a0').trans hu.2⟩).2
      exact l.has hk a0 (put_has h.g hX hk a0 a1)
    · exact src_has hX rs hrs' _ i0 r hr
theorem clo_shut {X : Wd} (hX : X.ok) {t : Tb} (h : Inv X t) : Shut X (cloT X t) := by
  refine ⟨fun r hr => ?_, pass_shut hX (clo_inv hX h) (clo_fix hX h)⟩
  obtain ⟨hk, a0, a1, o0, o1⟩ := src_bd hX hr
  have i0 : Inv X (srcT X t) := src_inv hX _ hX.ss _ h
  have l : Le X (cloT X t) (srcT X t) := (cloI_p (P := fun u => Inv X u ∧ Le X u (srcT X t)) (fun u hu => pass_p (P := fun u => Inv X u ∧ Le X u (srcT X t)) (fun y hy p hp as ha u hu => ⟨(step_dn hX hu.1 hy hp ha).1, (step_le hX hu.1 hy hp ha).trans hu.2⟩) hu) (smT fB (srcT X t) + 1) (srcT X t) ⟨i0, .refl⟩).2
  have e := l.has hk a0 (src_has hX X.ss (fun r h => h) t h r hr)
  show (!hasC X (cloT X t) r.k (srcO X r) r.a) = false
  rw [e]
  rfl
theorem shut_lks {X : Wd} {t : Tb} (h : Shut X t) : lks X t = [] := by
  have b1 : lkB1 X t = [] := List.filterMap_eq_nil_iff.mpr fun z hz => by
    have hr : z.2 ∈ X.ss := List.mem_of_getElem? (en_get (i := z.1) (x := z.2) hz).2
    rw [h.b z.2 hr]
    rfl
  have b2 : lkB2 X t = [] := List.flatMap_eq_nil_iff.mpr fun z hz => List.flatMap_eq_nil_iff.mpr fun p hp => List.filterMap_eq_nil_iff.mpr fun as ha => by
    have hw : z.2 ∈ X.ws := List.mem_of_getElem? (en_get (i := z.1) (x := z.2) hz).2
    rw [h.m z.2 hw p hp as (chs_mem.mp ha)]
    rfl
  unfold lks
  rw [b1, b2]
  rfl
theorem lks_shut {X : Wd} {t : Tb} (h : lks X t = []) : Shut X t := by
  unfold lks at h
  obtain ⟨h1, h2⟩ := List.append_eq_nil_iff.mp h
  refine ⟨fun r hr => ?_, fun y hy p hp as ha => ?_⟩
  · obtain ⟨i, hi⟩ := List.getElem?_of_mem hr
    have := List.filterMap_eq_nil_iff.mp h1 (0 + i, r) (en_mem hi)
    cases hb : brL X t r with
    | false => rfl
    | true =>
      have : (if brL X t r = true then some (brQ (0 + i), thD (some (r.k, r.s + (r.p - r.s) % X.n - r.a, r.a))) else none) = none := this
      rw [hb] at this
      cases this
  · obtain ⟨i, hi⟩ := List.getElem?_of_mem hy
    have := List.filterMap_eq_nil_iff.mp (List.flatMap_eq_nil_iff.mp (List.flatMap_eq_nil_iff.mp h2 (0 + i, y) (en_mem hi)) p hp) as (chs_mem.mpr ha)
    cases hb : mdL X t y p as with
    | false => rfl
    | true =>
      have : (if mdL X t y p as = true then some (mkQ (0 + i, p, as), thD (mdT X t y p as)) else none) = none := this
      rw [hb] at this
      cases this
theorem lek_none {B : Int} {X : Wd} {t : Tb} (g : TbG B X t) (hX : X.ok) : lekO X t = none ↔ Shut X t := by
  refine ⟨fun h => lks_shut (lek_no g hX h), fun h => ?_⟩
  cases e : lekO X t with
  | none => rfl
  | some d =>
    obtain ⟨z, hz⟩ := lek_in e
    rw [shut_lks h] at hz
    cases hz
theorem mo_le {B : Int} {X : Wd} {t u : Tb} {p : Int} (le : Le X u t) : ∀ (ps : List Pt) (as : List Int) (m m' m1 : Int), (∀ q ∈ ps, q.k ∈ X.ks) → (∀ a ∈ as, 0 ≤ a) → m' ≤ m → mo X t p ps as m = some m1 → ∃ m2, mo X u p ps as m' = some m2 ∧ m2 ≤ m1
  | [], as, m, m', m1, _, _, hm, e => by
    unfold mo at e
    cases e
    exact ⟨m', by unfold mo; rfl, hm⟩
  | q :: ps, [], m, m', m1, _, _, hm, e => by
    unfold mo at e
    cases e
    exact ⟨m', by unfold mo; rfl, hm⟩
  | q :: ps, a :: as, m, m', m1, hq, ha, hm, e => by
    rw [mo_step] at e
    obtain ⟨i, ei, e⟩ := some_bind e
    obtain ⟨i', ei', li⟩ := le q.k (hq q (by simp)) (p - a) a i (ha a (by simp)) ei
    rw [mo_step, ei']
    exact mo_le (B := B) le ps as _ _ m1 (fun q h => hq q (by simp [h])) (fun a h => ha a (by simp [h])) (by split <;> split <;> omega) e
theorem md_le {B B' : Int} {X : Wd} {t u : Tb} (g : TbG B X t) (g' : TbG B' X u) (hX : X.ok) (le : Le X u t) {y : Wy} (hy : y ∈ X.ws) {p : Int} {as : List Int} (ha : InW as y.ps) {k : Str} {o a : Int} (e : mdT X t y p as = some (k, o, a)) : ∃ o', mdT X u y p as = some (k, o', a) ∧ o' ≤ o ∧ o' % X.n = o % X.n := by
  have yo := hX.ws y hy
  have hb := ha.bd yo.ps
  have hk : ∀ q ∈ y.ps, q.k ∈ X.ks := fun q hq => (yo.ps q hq).k
  unfold mdT at e ⊢
  cases em : mo X t p y.ps as p with
  | none => rw [em] at e; cases e
  | some m =>
    rw [em] at e
    cases eo : ownO y as with
    | none => rw [eo] at e; cases e
    | some ow =>
      rw [eo] at e
      have e : some (y.k, m - ow, ow + y.w) = some (k, o, a) := e
      injection e with e
      injection e with e1 e
      injection e with e2 e3
      obtain ⟨m2, em2, lm⟩ := mo_le (B := B) le y.ps as p p m hk (fun a h => (hb a h).1) (Int.le_refl p) em
      rw [em2]
      refine ⟨m2 - ow, by rw [← e1, ← e3], by omega, ?_⟩
      have r1 := mo_mod g hX y.ps as p m hk em rfl
      have r2 := mo_mod g' hX y.ps as p m2 hk em2 rfl
      rw [← e2, Int.sub_emod m2, Int.sub_emod m, r1, r2]
theorem shut_has {B B' : Int} {X : Wd} {t u : Tb} (g : TbG B X t) (g' : TbG B' X u) (hX : X.ok) (le : Le X u t) (sh : Shut X u) {y : Wy} (hy : y ∈ X.ws) {p : Int} (hp : p ∈ y.hs) {as : List Int} (ha : InW as y.ps) {k : Str} {o a : Int} (e : mdT X t y p as = some (k, o, a)) : hasC X u k o a = true := by
  obtain ⟨o', e', lo, re⟩ := md_le g g' hX le hy ha e
  have h := sh.m y hy p hp as ha
  rw [← lk_md, e'] at h
  have h : (!hasC X u k o' a) = false := h
  have h : hasC X u k o' a = true := by
    cases z : hasC X u k o' a with
    | true => rfl
    | false => rw [z] at h; cases h
  unfold hasC at h ⊢
  rw [cl_mod (p := o) (q := o') re.symm]
  cases hc : cl X u k o' a with
  | none => rw [hc] at h; cases h
  | some i =>
    rw [hc] at h
    have h := of_decide_eq_true (show decide (i ≤ o') = true from h)
    exact decide_eq_true (show i ≤ o by omega)
theorem src_shut {X : Wd} {u : Tb} (sh : Shut X u) {r : Sr} (hr : r ∈ X.ss) : hasC X u r.k (srcO X r) r.a = true := by
  have h := sh.b r hr
  have h : (!hasC X u r.k (srcO X r) r.a) = false := h
  cases z : hasC X u r.k (srcO X r) r.a with
  | true => rfl
  | false => rw [z] at h; cases h
/-- what is closed is within every shut table that has the first one -/
theorem clo_least {B : Int} {X : Wd} {t u : Tb} (hX : X.ok) (h : Inv X t) (g : TbG B X u) (sh : Shut X u) (le : Le X u t) : Le X u (cloT X t) :=
  (clo_p (P := fun v => Inv X v ∧ Le X u v) hX (fun _ h => h.1) (fun r hr v hv => by
    obtain ⟨hk, a0, a1, o0, o1⟩ := src_bd hX hr
    exact ⟨src_step hX hr hv.1, put_within hv.1.g g hX hk a0 hv.2 (src_shut sh hr)⟩) (fun y hy p hp as ha v hv => by
    refine ⟨(step_dn hX hv.1 hy hp ha).1, ?_⟩
    unfold stepT
    cases em : mdT X v y p as with
    | none => exact hv.2
    | some q =>
      obtain ⟨k, o, a⟩ := q
      have n := hv.1.n
      obtain ⟨hk, a0, a1, o0, o1⟩ := md_bd hv.1.g (by unfold bnd; omega) hX hy hp ha em
      show Le X u (if hasC X v k o a = true then v else putT X v k o a)
      split
      · exact hv.2
      · exact put_within hv.1.g g hX hk a0 hv.2 (shut_has hv.1.g g hX hv.2 sh hy hp ha em)) ⟨h, le⟩).2
/-! tables that have the same are the same -/
theorem firstI_nd : ∀ {ks : List Str} {j : Nat} {k : Str}, ks.Nodup → ks[j]? = some k → firstI k ks = some j := fun {ks j k} nd h => by
  have hm : k ∈ ks := List.mem_of_getElem? h
  obtain ⟨i, hi, il⟩ := firstI.has hm
  have e := (firstI.spec hi).1
  have jl := (List.getElem?_eq_some_iff.mp h).1
  have : i = j := by
    have h1 : ks[i]? = ks[j]? := e.trans h.symm
    exact (List.getElem?_inj il nd).mp h1
  rw [← this]
  exact hi
theorem tb_le {B B' : Int} {X : Wd} {t u : Tb} (g : TbG B X t) (g' : TbG B' X u) (hX : X.ok) (nd : X.ks.Nodup) {j m a : Nat} {r s : List (List (Option Int))} {c d : List (Option Int)} {x y : Option Int} (h1 : t[j]? = some r) (h2 : u[j]? = some s) (h3 : r[m]? = some c) (h4 : s[m]? = some d) (h5 : c[a]? = some x) (h6 : d[a]? = some y) : ∃ k ∈ X.ks, cl X t k (m : Int) (a : Int) = x ∧ cl X u k (m : Int) (a : Int) = y := by
  have jl := (List.getElem?_eq_some_iff.mp h1).1
  have tl := g.l
  have n1 := hX.n1
  have rl := g.r r (List.mem_of_getElem? h1)
  have ml := (List.getElem?_eq_some_iff.mp h3).1
  have cl' := (g.s r (List.mem_of_getElem? h1) m c h3).l
  have al := (List.getElem?_eq_some_iff.mp h5).1
  obtain ⟨k, hk⟩ : ∃ k, X.ks[j]? = some k := ⟨_, List.getElem?_eq_getElem (by omega)⟩
  have hf := firstI_nd nd hk
  have em : ((m : Int) % X.n).toNat = m := by
    rw [Int.emod_eq_of_lt (by omega) (by omega)]
    omega
  have ea : (mn (a : Int)).toNat = a := by
    rw [mn_id (by omega)]
    omega
  refine ⟨k, List.mem_of_getElem? hk, ?_, ?_⟩
  · rw [cl_at hf h1 (by rw [em]; exact h3), ea, h5]
    rfl
  · rw [cl_at hf h2 (by rw [em]; exact h4), ea, h6]
    rfl
theorem ext_l {α : Type} {xs ys : List α} (l : xs.length = ys.length) (h : ∀ (i : Nat) x y, xs[i]? = some x → ys[i]? = some y → x = y) : xs = ys := by
  apply List.ext_getElem?
  intro i
  cases hx : xs[i]? with
  | none =>
    have := List.getElem?_eq_none_iff.mp hx
    rw [List.getElem?_eq_none (by omega)]
  | some x =>
    have := (List.getElem?_eq_some_iff.mp hx).1
    obtain ⟨y, hy⟩ : ∃ y, ys[i]? = some y := ⟨_, List.getElem?_eq_getElem (by omega)⟩
    rw [hy, h i x y hx hy]
theorem tb_ext {B B' : Int} {X : Wd} {t u : Tb} (g : TbG B X t) (g' : TbG B' X u) (hX : X.ok) (nd : X.ks.Nodup) (l1 : Le X t u) (l2 : Le X u t) : t = u :=
  ext_l (by rw [g.l, g'.l]) fun j r s h1 h2 => ext_l (by rw [g.r r (List.mem_of_getElem? h1), g'.r s (List.mem_of_getElem? h2)]) fun m c d h3 h4 => ext_l (by rw [(g.s r (List.mem_of_getElem? h1) m c h3).l, (g'.s s (List.mem_of_getElem? h2) m d h4).l]) fun a x y h5 h6 => by
    obtain ⟨k, hk, e1, e2⟩ := tb_le g g' hX nd h1 h2 h3 h4 h5 h6
    cases x with
    | none =>
      cases y with
      | none => rfl
      | some j' =>
        obtain ⟨i, ei, _⟩ := l1 k hk m a j' (by omega) e2
        rw [ei] at e1
        cases e1
    | some i =>
      obtain ⟨j', ej, lj⟩ := l2 k hk m a i (by omega) e1
      rw [e2] at ej
      subst ej
      obtain ⟨i', ei, li⟩ := l1 k hk m a j' (by omega) e2
      rw [ei] at e1
      injection e1 with e1
      have : i = j' := by omega
      rw [this]
theorem zip_getq {α β γ : Type} {f : α → β → γ} {xs : List α} {ys : List β} {i : Nat} {x : α} {y : β} (hx : xs[i]? = some x) (hy : ys[i]? = some y) : (List.zipWith f xs ys)[i]? = some (f x y) := by
  rw [List.getElem?_zipWith, hx, hy]
/-- the greater cells are the one's own just where the other has all that it has -/
theorem hi_le {B B' : Int} {X : Wd} {t u : Tb} (g : TbG B X t) (g' : TbG B' X u) (hX : X.ok) (nd : X.ks.Nodup) (le : Le X u t) : zipT hiC t u = t := by
  unfold zipT
  refine ext_l (by rw [List.length_zipWith, g.l, g'.l, Nat.min_self]) fun j r' r e1 h1 => ?_
  obtain ⟨s, h2⟩ : ∃ s, u[j]? = some s := ⟨_, List.getElem?_eq_getElem (by have := (List.getElem?_eq_some_iff.mp h1).1; have := g.l; have := g'.l; omega)⟩
  rw [zip_getq h1 h2] at e1
  injection e1 with e1
  subst e1
  have rl := g.r r (List.mem_of_getElem? h1)
  have sl := g'.r s (List.mem_of_getElem? h2)
  refine ext_l (by rw [List.length_zipWith, rl, sl, Nat.min_self]) fun m c' c e1 h3 => ?_
  obtain ⟨d, h4⟩ : ∃ d, s[m]? = some d := ⟨_, List.getElem?_eq_getElem (by have := (List.getElem?_eq_some_iff.mp h3).1; omega)⟩
  rw [zip_getq h3 h4] at e1
  injection e1 with e1
  subst e1
  have cl' := (g.s r (List.mem_of_getElem? h1) m c h3).l
  have dl := (g'.s s (List.mem_of_getElem? h2) m d h4).l
  refine ext_l (by rw [List.length_zipWith, cl', dl, Nat.min_self]) fun a x' x e1 h5 => ?_
  obtain ⟨y, h6⟩ : ∃ y, d[a]? = some y := ⟨_, List.getElem?_eq_getElem (by have := (List.getElem?_eq_some_iff.mp h5).1; omega)⟩
  rw [zip_getq h5 h6] at e1
  injection e1 with e1
  subst e1
  obtain ⟨k, hk, e1, e2⟩ := tb_le g g' hX nd h1 h2 h3 h4 h5 h6
  cases x with
  | none => cases y <;> rfl
  | some i =>
    obtain ⟨j', ej, lj⟩ := le k hk m a i (by omega) e1
    rw [e2] at ej
    subst ej
    show (if decide (i > j') = true then some i else some j') = some i
    split
    · rfl
    · rename_i hn
      have : ¬ i > j' := fun z => hn (decide_eq_true z)
      have : i = j' := by omega
      rw [this]
end Dl
namespace Dl
open PySem PySem.Spec PyProof.Rows L2 Rt
/-! ### both of two tables, either of two -/
theorem hi_some {x y : Option Int} {i : Int} (h : hiC x y = some i) : ∃ a b, x = some a ∧ y = some b ∧ (i = a ∨ i = b) ∧ a ≤ i ∧ b ≤ i := by
  cases x with
  | none =>
    cases y with
    | none => cases h
    | some b => cases h
  | some a =>
    cases y with
    | none => cases h
    | some b =>
      have h : (if decide (a > b) = true then some a else some b) = some i := h
      refine ⟨a, b, rfl, rfl, ?_⟩
      by_cases c : a > b
      · rw [if_pos (decide_eq_true c)] at h
        injection h with h
        omega
      · rw [if_neg (by simpa using c)] at h
        injection h with h
        omega
theorem hi_of (a b : Int) : ∃ i, hiC (some a) (some b) = some i ∧ (i = a ∨ i = b) ∧ a ≤ i ∧ b ≤ i := by
  by_cases c : a > b
  · exact ⟨a, if_pos (decide_eq_true c), by omega⟩
  · exact ⟨b, if_neg (by simpa [abO] using c), by omega⟩
theorem lo_some {x y : Option Int} {i : Int} (h : loC x y = some i) : (x = some i ∨ y = some i) ∧ (∀ a, x = some a → i ≤ a) ∧ ∀ b, y = some b → i ≤ b := by
  cases x with
  | none =>
    cases y with
    | none => cases h
    | some b =>
      cases h
      exact ⟨.inr rfl, fun a e => (nomatch e), fun b' e => (by cases e; omega)⟩
  | some a =>
    cases y with
    | none =>
      cases h
      exact ⟨.inl rfl, fun a' e => (by cases e; omega), fun b e => (nomatch e)⟩
    | some b =>
      have h : (if decide (a > b) = true then some b else some a) = some i := h
      by_cases c : a > b
      · rw [if_pos (decide_eq_true c)] at h
        injection h with h
        exact ⟨.inr (by rw [h]), fun a' e => (by cases e; omega), fun b' e => (by cases e; omega)⟩
      · rw [if_neg (by simpa using c)] at h
        injection h with h
        exact ⟨.inl (by rw [h]), fun a' e => (by cases e; omega), fun b' e => (by cases e; omega)⟩
theorem lo_l {x y : Option Int} {a : Int} (h : x = some a) : ∃ i, loC x y = some i ∧ i ≤ a := by
  subst h
  cases y with
  | none => exact ⟨a, rfl, Int.le_refl _⟩
  | some b =>
    by_cases c : a > b
    · exact ⟨b, if_pos (decide_eq_true c), by omega⟩
    · exact ⟨a, if_neg (by simpa [abO] using c), by omega⟩
theorem lo_r {x y : Option Int} {b : Int} (h : y = some b) : ∃ i, loC x y = some i ∧ i ≤ b := by
  subst h
  cases x with
  | none => exact ⟨b, rfl, Int.le_refl _⟩
  | some a =>
    by_cases c : a > b
    · exact ⟨b, if_pos (decide_eq_true c), by omega⟩
    · exact ⟨a, if_neg (by simpa [abO] using c), by omega⟩
theorem zw_get {α β γ : Type} {f : α → β → γ} {xs : List α} {ys : List β} {i : Nat} {z : γ} (h : (List.zipWith f xs ys)[i]? = some z) : ∃ x y, xs[i]? = some x ∧ ys[i]? = some y ∧ f x y = z := by
  rw [List.getElem?_zipWith] at h
  cases hx : xs[i]? with
  | none => rw [hx] at h; cases h
  | some x =>
    cases hy : ys[i]? with
    | none => rw [hx, hy] at h; cases h
    | some y =>
      rw [hx, hy] at h
      injection h with h
      exact ⟨x, y, rfl, rfl, h⟩
theorem StG.hiZ {B n pl : Int} {s s' : List (Option Int)} (g : StG B n pl s) (g' : StG B n pl s') : StG B n pl (List.zipWith hiC s s') := by
  have mem : ∀ i, some i ∈ List.zipWith hiC s s' → some i ∈ s ∨ some i ∈ s' := fun i hi => by
    obtain ⟨j, hj⟩ := List.getElem?_of_mem hi
    obtain ⟨x, y, hx, hy, e⟩ := zw_get hj
    obtain ⟨a, b, rfl, rfl, h, _⟩ := hi_some e
    rcases h with rfl | rfl
    · exact .inl (List.mem_of_getElem? hx)
    · exact .inr (List.mem_of_getElem? hy)
  refine ⟨by rw [List.length_zipWith, g.l, g'.l]; rfl, fun i hi => (mem i hi).elim (g.res i) (g'.res i), fun i hi => (mem i hi).elim (g.lo i) (g'.lo i), fun i hi => (mem i hi).elim (g.hi i) (g'.hi i), fun a b i ha hab hb => ?_⟩
  obtain ⟨x, y, hx, hy, e⟩ := zw_get ha
  obtain ⟨u, v, rfl, rfl, h, h1, h2⟩ := hi_some e
  obtain ⟨u', hu, lu⟩ := g.mon a b u hx hab hb
  obtain ⟨v', hv, lv⟩ := g'.mon a b v hy hab hb
  obtain ⟨i', e', h', _, _⟩ := hi_of u' v'
  refine ⟨i', by rw [zip_getq hu hv, e'], by omega⟩
theorem StG.loZ {B n pl : Int} {s s' : List (Option Int)} (g : StG B n pl s) (g' : StG B n pl s') : StG B n pl (List.zipWith loC s s') := by
  have mem : ∀ i, some i ∈ List.zipWith loC s s' → some i ∈ s ∨ some i ∈ s' := fun i hi => by
    obtain ⟨j, hj⟩ := List.getElem?_of_mem hi
    obtain ⟨x, y, hx, hy, e⟩ := zw_get hj
    rcases (lo_some e).1 with rfl | rfl
    · exact .inl (List.mem_of_getElem? hx)
    · exact .inr (List.mem_of_getElem? hy)
  refine ⟨by rw [List.length_zipWith, g.l, g'.l]; rfl, fun i hi => (mem i hi).elim (g.res i) (g'.res i), fun i hi => (mem i hi).elim (g.lo i) (g'.lo i), fun i hi => (mem i hi).elim (g.hi i) (g'.hi i), fun a b i ha hab hb => ?_⟩
  obtain ⟨x, y, hx, hy, e⟩ := zw_get ha
  have sl := g.l
  have sl' := g'.l
  obtain ⟨x', hx'⟩ : ∃ x, s[b]? = some x := ⟨_, List.getElem?_eq_getElem (by omega)⟩
  obtain ⟨y', hy'⟩ : ∃ y, s'[b]? = some y := ⟨_, List.getElem?_eq_getElem (by omega)⟩
  rw [zip_getq hx' hy']
  rcases (lo_some e).1 with rfl | rfl
  · obtain ⟨u', hu, lu⟩ := g.mon a b i hx hab hb
    rw [hu] at hx'
    injection hx' with hx'
    obtain ⟨i', e', l'⟩ := lo_l (x := x') (y := y') hx'.symm
    exact ⟨i', by rw [e'], by omega⟩
  · obtain ⟨u', hu, lu⟩ := g'.mon a b i hy hab hb
    rw [hu] at hy'
    injection hy' with hy'
    obtain ⟨i', e', l'⟩ := lo_r (x := x') (y := y') hy'.symm
    exact ⟨i', by rw [e'], by omega⟩
theorem TbG.zip {B : Int} {X : Wd} {t u : Tb} {fn : Option Int → Option Int → Option Int} (hf : ∀ pl s s', StG B X.n pl s → StG B X.n pl s' → StG B X.n pl (List.zipWith fn s s')) (g : TbG B X t) (g' : TbG B X u) : TbG B X (zipT fn t u) := by
  have mem : ∀ r ∈ zipT fn t u, ∃ a b, a ∈ t ∧ b ∈ u ∧ r = List.zipWith (List.zipWith fn) a b := fun r hr => by
    obtain ⟨j, hj⟩ := List.getElem?_of_mem hr
    obtain ⟨x, y, hx, hy, e⟩ := zw_get hj
    exact ⟨x, y, List.mem_of_getElem? hx, List.mem_of_getElem? hy, e.symm⟩
  refine ⟨by unfold zipT; rw [List.length_zipWith, g.l, g'.l, Nat.min_self], fun r hr => ?_, fun r hr p s e => ?_⟩
  · obtain ⟨a, b, ha, hb, rfl⟩ := mem r hr
    rw [List.length_zipWith, g.r a ha, g'.r b hb, Nat.min_self]
  · obtain ⟨a, b, ha, hb, rfl⟩ := mem r hr
    obtain ⟨x, y, hx, hy, rfl⟩ := zw_get e
    exact hf _ _ _ (g.s a ha p x hx) (g'.s b hb p y hy)
theorem TbG.hi {B : Int} {X : Wd} {t u : Tb} (g : TbG B X t) (g' : TbG B X u) : TbG B X (zipT hiC t u) := TbG.zip (fun _ _ _ => StG.hiZ) g g'
theorem TbG.loo {B : Int} {X : Wd} {t u : Tb} (g : TbG B X t) (g' : TbG B X u) : TbG B X (zipT loC t u) := TbG.zip (fun _ _ _ => StG.loZ) g g'
theorem cl_zip {B B' : Int} {X : Wd} {t u : Tb} {fn : Option Int → Option Int → Option Int} (g : TbG B X t) (g' : TbG B' X u) (hX : X.ok) {k : Str} (hk : k ∈ X.ks) (p a : Int) : cl X (zipT fn t u) k p a = fn (cl X t k p a) (cl X u k p a) := by
  obtain ⟨j, r, s, A⟩ := g.at hX hk p
  obtain ⟨j', r', s', A'⟩ := g'.at hX hk p
  have ej : j = j' := by
    have h1 := A.hf
    rw [A'.hf] at h1
    injection h1 with h1
    exact h1.symm
  subst ej
  have h26 := mn_26 a
  have sl := A.hg.l
  have sl' := A'.hg.l
  obtain ⟨x, hx⟩ : ∃ x, s[(mn a).toNat]? = some x := ⟨_, List.getElem?_eq_getElem (by omega)⟩
  obtain ⟨y, hy⟩ : ∃ y, s'[(mn a).toNat]? = some y := ⟨_, List.getElem?_eq_getElem (by omega)⟩
  have e := cl_at (X := X) (t := zipT fn t u) (a := a) A.hf (zip_getq A.ht A'.ht) (zip_getq A.hr A'.hr)
  rw [A.hc a, A'.hc a, hx, hy, e, zip_getq hx hy]
  rfl
theorem hi_leT {B B' : Int} {X : Wd} {t u : Tb} (g : TbG B X t) (g' : TbG B' X u) (hX : X.ok) : Le X t (zipT hiC t u) ∧ Le X u (zipT hiC t u) := by
  refine ⟨fun k hk p b j hb e => ?_, fun k hk p b j hb e => ?_⟩
  · rw [cl_zip g g' hX hk] at e
    obtain ⟨x, y, hx, hy, _, h1, h2⟩ := hi_some e
    exact ⟨x, hx, h1⟩
  · rw [cl_zip g g' hX hk] at e
    obtain ⟨x, y, hx, hy, _, h1, h2⟩ := hi_some e
    exact ⟨y, hy, h2⟩
theorem lo_leT {B B' : Int} {X : Wd} {t u : Tb} (g : TbG B X t) (g' : TbG B' X u) (hX : X.ok) : Le X (zipT loC t u) t ∧ Le X (zipT loC t u) u := by
  refine ⟨fun k hk p b j hb e => ?_, fun k hk p b j hb e => ?_⟩
  · rw [cl_zip g g' hX hk]
    exact lo_l e
  · rw [cl_zip g g' hX hk]
    exact lo_r e
theorem hasC_iff {X : Wd} {t : Tb} {k : Str} {o a : Int} : hasC X t k o a = true ↔ ∃ i, cl X t k o a = some i ∧ i ≤ o := by
  unfold hasC
  cases cl X t k o a with
  | none => simp
  | some i =>
    show decide (i ≤ o) = true ↔ _
    simp
theorem hi_has {B B' : Int} {X : Wd} {t u : Tb} (g : TbG B X t) (g' : TbG B' X u) (hX : X.ok) {k : Str} (hk : k ∈ X.ks) {o a : Int} (h1 : hasC X t k o a = true) (h2 : hasC X u k o a = true) : hasC X (zipT hiC t u) k o a = true := by
  obtain ⟨i, ei, li⟩ := hasC_iff.mp h1
  obtain ⟨j, ej, lj⟩ := hasC_iff.mp h2
  obtain ⟨m, em, hm, _⟩ := hi_of i j
  exact hasC_iff.mpr ⟨m, by rw [cl_zip g g' hX hk, ei, ej, em], by omega⟩
theorem mdL_of {X : Wd} {t : Tb} {y : Wy} {p : Int} {as : List Int} (h : ∀ k o a, mdT X t y p as = some (k, o, a) → hasC X t k o a = true) : mdL X t y p as = false := by
  rw [← lk_md]
  cases e : mdT X t y p as with
  | none => rfl
  | some z =>
    obtain ⟨k, o, a⟩ := z
    show (!hasC X t k o a) = false
    rw [h k o a e]
    rfl
theorem both_shut {B : Int} {X : Wd} {t u : Tb} (g : TbG B X t) (g' : TbG B X u) (hB : 0 ≤ B) (hX : X.ok) (h : Shut X t) (h' : Shut X u) : Shut X (zipT hiC t u) := by
  obtain ⟨l1, l2⟩ := hi_leT g g' hX
  refine ⟨fun r hr => ?_, fun y hy p hp as ha => mdL_of fun k o a e => ?_⟩
  · obtain ⟨hk, _⟩ := src_bd hX hr
    have := hi_has g g' hX hk (src_shut h hr) (src_shut h' hr)
    show (!hasC X (zipT hiC t u) r.k (srcO X r) r.a) = false
    rw [this]
    rfl
  · obtain ⟨hk, _⟩ := md_bd (g.hi g') hB hX hy hp ha e
    exact hi_has g g' hX hk (shut_has (g.hi g') g hX l1 h hy hp ha e) (shut_has (g.hi g') g' hX l2 h' hy hp ha e)
end Dl
namespace Dl
open PySem PySem.Spec PyProof.Rows L2 Rt
theorem ev_orF {f g : Rho → Option Bool} {ρ : Rho} {b : Bool} (hf : f ρ = some false) (hg : g ρ = some b) : oOr f g ρ = some b := (ev_oOr hf).trans hg
theorem ev_orT {f g : Rho → Option Bool} {ρ : Rho} (hf : f ρ = some true) : oOr f g ρ = some true := (ev_oOr hf).trans rfl
theorem ev_andT {f g : Rho → Option Bool} {ρ : Rho} {b : Bool} (hf : f ρ = some true) (hg : g ρ = some b) : oAnd f g ρ = some b := (ev_oAnd hf).trans hg
theorem ev_andF {f g : Rho → Option Bool} {ρ : Rho} (hf : f ρ = some false) : oAnd f g ρ = some false := (ev_oAnd hf).trans rfl
end Dl
namespace Dl
open PySem PySem.Spec PyProof.Rows L2 Rt
section
variable {X : Cx} {K : PySem.W.Frag}
/-! a def that draws is lent lists of one's own; what it tells holds no list -/
def wCallL (i n : Nat) (F : GF) (f : Rho → Option (List D)) : WP D := ⟨fun ρ b Q => ρ[i]? = some (some .pool) ∧ ∃ ds, f (shutR false ρ) = some ds ∧ ds.length = n ∧ F.f ds b fun d b' => nl d = true ∧ Q d b', fun h ⟨e, ds, ed, l, z⟩ => ⟨e, ds, ed, l, F.m (fun d b' y => ⟨y.1, h _ _ y.2⟩) z⟩⟩
theorem nE_drawL {k n : Nat} {x : Str} {ps : List Str} {F : GF} {p pos : Pos} {e : Expr} {es : List Expr} {f : Rho → Option (List D)} {i : Nat} (C : Cl X.prog X.w X.K X.mg X.base k x ps (spN n F)) (hr : Room k X.A) (hg : Gl X x) (he0 : PE X e (tVar i)) (ha : PA X es (tA false f))
    (hdb : (x == ("__debug__" : Str)) = false := by decide) (he : starEach (e :: es) X.env = (false, eval e X.env) :: starEach es X.env := by rfl) (hpl : (backTo pos (starEach es X.env)).any (·.1) = false := by rfl) :
    PE X (.Call (.Name x p) (e :: es) [] pos) (tn (wCallL i n F f)) := (pe_cl C hr hg (pa_cons he0 ha he) hdb he hpl).wk fun σ H Q q => by
  obtain ⟨p, M0, H0, ρ, b, R, ei, ds, ed, l, q⟩ := q
  refine ⟨_, R.pool i ei, _, H, _, ds, R.rs false, ed, fun vs H1 s1 r1 => ?_⟩
  show spN n F ((p.h :: vs) ++ []) H1 Q E0
  rw [List.append_nil]
  refine ⟨p, Mu false M0 σ ρ, vs, ds, b, rfl, fun a o => .inl (R.pl a o), (R.mono s1).domu false, Pl.same R.iv s1, r1.reM fun a m => .inl (.inl m), l, F.m (fun d b2 ⟨hn, q⟩ v H2 k2 i2 r2 => q v H2 ((KpM.of s1).tr k2) i2 (r2.nl hn fun a m => ?_)) q⟩
  rcases m with m | ⟨_, j, es, e1, e2⟩
  · exact .inl (.inl m)
  · obtain ⟨p2, ws, x1, y1, z1, _⟩ := (R.mono s1).own j es e1
    rw [e2] at x1
    cases x1
    exact .inr ⟨_, k2 _ _ (fun o => R.dom0 a (R.pl a o) z1) y1⟩
/-- a list of one's own, or one that is only read already -/
def swFrzO (i : Nat) (f : WP Out) : WP Out := ⟨fun ρ b Q => (∃ ds, ρ[i]? = some (some (.own ds)) ∧ f.w (ρ.set i (some (.dat (.list ds)))) b Q) ∨ f.w ρ b Q, fun h z => z.elim (fun ⟨ds, e, y⟩ => .inl ⟨ds, e, f.m h y⟩) fun y => .inr (f.m h y)⟩
theorem nS_frzO {st : Stmt} {i : Nat} {f : WP Out} (h : PS X st (tSn f)) : PS X st (tSn (swFrzO i f)) := ⟨fun pn s σ H Q I q => by
  obtain ⟨g, M0, H0, ρ, b, R, q⟩ := q
  rcases q with ⟨ds, e, q⟩ | q
  · exact (nS_frz (i := i) h).run pn s σ H Q I ⟨g, M0, H0, ρ, b, R, ds, e, q⟩
  · exact h.run pn s σ H Q I ⟨g, M0, H0, ρ, b, R, q⟩⟩
end
end Dl
namespace Dl
open PySem PySem.Spec PyProof.Rows L2 Rt
/-! ### what is followed -/
abbrev Fz := Str × Int × Int
def foD (z : Fz) : D := .tuple [.str z.1, .int z.2.1, .int z.2.2]
theorem foD.inj {x y : Fz} (h : foD x = foD y) : x = y := by
  obtain ⟨a, b, c⟩ := x
  obtain ⟨a', b', c'⟩ := y
  injection h with h
  injection h with h1 h
  injection h with h2 h
  injection h with h3 h
  rw [show a = a' from str_i h1, show b = b' from int_i h2, show c = c' from int_i h3]
structure Fol (X : Wd) (z : Fz) : Prop where
  k : z.1 ∈ X.ks
  a : z.2.1 ≤ z.2.2
  b : 0 ≤ z.2.2
  h : ∀ (u : Tb) (B : Int), TbG B X u → Shut X u → hasC X u z.1 z.2.1 (z.2.2 - z.2.1) = true
theorem hasC_up {X : Wd} {t : Tb} {k : Str} {o o' a : Int} (le : o ≤ o') (hm : o' % X.n = o % X.n) (h : hasC X t k o a = true) : hasC X t k o' a = true := by
  obtain ⟨i, ei, li⟩ := hasC_iff.mp h
  exact hasC_iff.mpr ⟨i, by rw [cl_mod (p := o') (q := o) hm]; exact ei, by omega⟩
theorem hasC_age {B : Int} {X : Wd} {t : Tb} (g : TbG B X t) (hX : X.ok) {k : Str} (hk : k ∈ X.ks) {o a b : Int} (a0 : 0 ≤ a) (ab : a ≤ b) (h : hasC X t k o a = true) : hasC X t k o b = true := by
  obtain ⟨i, ei, li⟩ := hasC_iff.mp h
  obtain ⟨i', ei', li'⟩ := g.mon hX hk a0 ab ei
  exact hasC_iff.mpr ⟨i', ei', by omega⟩
theorem add_mul_mod (o n d : Int) : (o + n * d) % n = o % n := by
  rw [Int.add_mul_emod_self_left]
theorem fol_src {X : Wd} (hX : X.ok) {r : Sr} (hr : r ∈ X.ss) {d : Int} (d0 : 0 ≤ d) : Fol X (r.k, r.s + (r.p - r.s) % X.n + X.n * d - r.a, r.s + (r.p - r.s) % X.n + X.n * d) := by
  obtain ⟨hk, a0, a1, _⟩ := src_bd hX hr
  have n1 := hX.n1
  have m0 := Int.mul_nonneg (show 0 ≤ X.n by omega) d0
  have q0 := Int.emod_nonneg (r.p - r.s) (show X.n ≠ 0 by omega)
  have s0 := (hX.ss r hr).s0
  refine ⟨hk, show r.s + (r.p - r.s) % X.n + X.n * d - r.a ≤ r.s + (r.p - r.s) % X.n + X.n * d by omega, show 0 ≤ r.s + (r.p - r.s) % X.n + X.n * d by omega, fun u B g sh => ?_⟩
  have h := src_shut sh hr
  have e : r.s + (r.p - r.s) % X.n + X.n * d - r.a = srcO X r + X.n * d := by unfold srcO; omega
  show hasC X u r.k (r.s + (r.p - r.s) % X.n + X.n * d - r.a) (r.s + (r.p - r.s) % X.n + X.n * d - (r.s + (r.p - r.s) % X.n + X.n * d - r.a)) = true
  rw [e, show r.s + (r.p - r.s) % X.n + X.n * d - (srcO X r + X.n * d) = r.a by unfold srcO; omega]
  exact hasC_up (by omega) (add_mul_mod _ _ _) h
/-- each of the parts is there at the moment, with an age in its window -/
def Prt (X : Wd) (M : Int) : List Pt → List Int → Prop
  | [], [] => True
  | q :: ps, o :: os => (q.l ≤ M - o ∧ M - o ≤ q.g ∧ ∀ (u : Tb) (B : Int), TbG B X u → Shut X u → hasC X u q.k o (M - o) = true) ∧ Prt X M ps os
  | _, _ => False
theorem Prt.app {X : Wd} {M : Int} {q : Pt} {o : Int} (h1 : q.l ≤ M - o ∧ M - o ≤ q.g ∧ ∀ (u : Tb) (B : Int), TbG B X u → Shut X u → hasC X u q.k o (M - o) = true) : ∀ {ps : List Pt} {os : List Int}, Prt X M ps os → Prt X M (ps ++ [q]) (os ++ [o])
  | [], [], _ => ⟨h1, trivial⟩
  | _ :: _, _ :: _, h => ⟨h.1, Prt.app h1 h.2⟩
  | [], _ :: _, h => h.elim
  | _ :: _, [], h => h.elim
theorem Prt.inW {X : Wd} {M : Int} : ∀ {ps : List Pt} {os : List Int}, Prt X M ps os → InW (os.map (M - ·)) ps
  | [], [], _ => trivial
  | _ :: _, _ :: _, h => ⟨⟨h.1.1, h.1.2.1⟩, Prt.inW h.2⟩
  | [], _ :: _, h => h.elim
  | _ :: _, [], h => h.elim
theorem Prt.all {X : Wd} {M : Int} {u : Tb} {B : Int} (g : TbG B X u) (sh : Shut X u) : ∀ {ps : List Pt} {os : List Int}, Prt X M ps os → ∀ z ∈ ps.zip (os.map (M - ·)), hasC X u z.1.k (M - z.2) z.2 = true
  | [], [], _ => fun z h => nomatch h
  | q :: ps, o :: os, h => by
    intro z hz
    rcases List.mem_cons.mp (show z ∈ (q, M - o) :: ps.zip (os.map (M - ·)) from hz) with rfl | hz
    · show hasC X u q.k (M - (M - o)) (M - o) = true
      rw [show M - (M - o) = o by omega]
      exact h.1.2.2 u B g sh
    · exact Prt.all g sh h.2 z hz
  | [], _ :: _, h => h.elim
  | _ :: _, [], h => h.elim
theorem mo_allF {B : Int} {X : Wd} {v : Tb} (g : TbG B X v) (hX : X.ok) {p M : Int} (hM : M % X.n = p % X.n) : ∀ (ps : List Pt) (as : List Int) (m : Int), m ≤ M → (∀ z ∈ ps.zip as, hasC X v z.1.k (M - z.2) z.2 = true) → ∃ m2, mo X v p ps as m = some m2 ∧ m2 ≤ M
  | [], as, m, hm, _ => ⟨m, by unfold mo; rfl, hm⟩
  | q :: ps, [], m, hm, _ => ⟨m, by unfold mo; rfl, hm⟩
  | q :: ps, a :: as, m, hm, h => by
    obtain ⟨i, ei, li⟩ := hasC_iff.mp (h (q, a) (by simp))
    have e : cl X v q.k (p - a) a = some i := by
      rw [cl_mod (p := p - a) (q := M - a) (by rw [Int.sub_emod p, Int.sub_emod M, hM])]
      exact ei
    rw [mo_step, e]
    exact mo_allF g hX hM ps as _ (by split <;> omega) fun z hz => h z (List.mem_cons_of_mem _ hz)
theorem fol_made {X : Wd} (hX : X.ok) {y : Wy} (hy : y ∈ X.ws) {M : Int} (hp : M % X.n ∈ y.hs) (M0 : 0 ≤ M) {os : List Int} (h : Prt X M y.ps os) {ow : Int} (eo : ownO y (os.map (M - ·)) = some ow) : Fol X (y.k, M - ow, M + y.w) := by
  have yo := hX.ws y hy
  have ha := h.inW
  have hb := ha.bd yo.ps
  have hk : ∀ q ∈ y.ps, q.k ∈ X.ks := fun q hq => (yo.ps q hq).k
  have ow0 := own_ge eo fun a h => (hb a h).1
  have w0 := yo.w0
  have n1 := hX.n1
  have eM : M % X.n = (M % X.n) % X.n := (Int.emod_emod_of_dvd M (Int.dvd_refl X.n)).symm
  have M1 : M % X.n ≤ M := by
    have e := Int.mul_ediv_add_emod M X.n
    have d0 := Int.ediv_nonneg M0 (show 0 ≤ X.n by omega)
    have := Int.mul_nonneg (show 0 ≤ X.n by omega) d0
    omega
  refine ⟨yo.k, by show M - ow ≤ M + y.w; omega, by show 0 ≤ M + y.w; omega, fun u B g sh => ?_⟩
  obtain ⟨m2, e2, l2⟩ := mo_allF g hX eM y.ps (os.map (M - ·)) (M % X.n) M1 (h.all g sh)
  have r2 := mo_mod g hX y.ps _ (M % X.n) m2 hk e2 rfl
  have ev : mdT X u y (M % X.n) (os.map (M - ·)) = some (y.k, m2 - ow, ow + y.w) := by
    unfold mdT
    rw [e2, eo]
  have hs := sh.m y hy (M % X.n) hp _ ha
  rw [← lk_md, ev] at hs
  have hs : (!hasC X u y.k (m2 - ow) (ow + y.w)) = false := hs
  have hs : hasC X u y.k (m2 - ow) (ow + y.w) = true := by
    cases z : hasC X u y.k (m2 - ow) (ow + y.w) with
    | true => rfl
    | false => rw [z] at hs; cases hs
  show hasC X u y.k (M - ow) (M + y.w - (M - ow)) = true
  rw [show M + y.w - (M - ow) = ow + y.w by omega]
  exact hasC_up (by omega) (by rw [Int.sub_emod M, Int.sub_emod m2, r2, ← eM]) hs
end Dl
namespace Dl
open PySem PySem.Spec PyProof.Rows L2 Rt
theorem okS {z : Str} (h : PyData.strOk z = true) : okD (.str z) = true := by
  have e : (PyData.str z).canLay0 = PyData.strOk z := rfl
  show (!false && ((PyData.str z).canLay0 && decide (0 ≤ 64))) = true
  rw [e, h]
  rfl
theorem eqZ_str {x y : Str} (h : PyData.strOk x = true) (h2 : PyData.strOk y = true) : eqZ (.str x) (.str y) = some (.bool (x == y)) := eq_ok (okS h) (okS h2)
def gFol : GF := gAny 10 (fun ds => ∃ (X : Wd) (zs : List Fz), ds = [X.d, .list (zs.map foD)] ∧ X.ok ∧ zs.length ≤ 40 ∧ ∀ z ∈ zs, Fol X z) (fun ds d => ∃ (X : Wd) (zs : List Fz), ds = [X.d, .list (zs.map foD)] ∧ (d = .none ∨ ∃ z, d = foD z ∧ Fol X z))
noncomputable def folS1 : WP Out := (swSeq (swAsg (Pat.nm 3) (wCall 0 1 gOne (wCons (wP (e2 ixD (eVar 1) (eC (PyData.int 2)))) wNil)))
            (swSeq
              (swAsg (Pat.nm 4)
                (wP
                  (e2 addD (e2 ixD (eVar 3) (eC (PyData.int 3)))
                    (e2 modD (e2 subD (e2 ixD (eVar 3) (eC (PyData.int 2))) (e2 ixD (eVar 3) (eC (PyData.int 3))))
                      (e2 ixD (eVar 1) (eC (PyData.int 0)))))))
              (swSeq
                (swAsg (Pat.nm 4)
                  (w2 (wP (eVar 4))
                    (w2 (wP (e2 ixD (eVar 1) (eC (PyData.int 0))))
                      (wCall 0 1 gNext (wCons (wP (eC (PyData.int 5))) wNil)) mulX)
                    addD))
                (swRetL
                  (eTup
                    (aCons (e2 ixD (eVar 3) (eC (PyData.int 0)))
                      (aCons (e2 subD (eVar 4) (e2 ixD (eVar 3) (eC (PyData.int 1)))) (aCons (eVar 4) aNil))))))))
noncomputable def folIn : WP Out := (swSeq
                                  (swAsg (Pat.nm 18) (wP (e2 subD (eVar 4) (e2 ixD (eVar 17) (eC (PyData.int 1))))))
                                  (swIf
                                    (wP
                                      (oAnd (oB (e2 eqZ (e2 ixD (eVar 17) (eC (PyData.int 0))) (eVar 13)))
                                        (oB (e2 leD (e2 ixD (eVar 17) (eC (PyData.int 2))) (eVar 4)))))
                                    (swAsg (Pat.nm 16)
                                      (wP
                                        (e2 addD (eVar 16)
                                          (e2 mulX (eLst (aCons (e2 ixD (eVar 17) (eC (PyData.int 1))) aNil))
                                            (eCall intD (aCons (eChain leD leD (eVar 14) (eVar 18) (eVar 15)) aNil))))))
                                    swNil))
noncomputable def folBody : WP Out := (swSeq (swAsg (Pat.nm 16) (wP (eLst aNil)))
                            (swSeq
                              (swFor (wP (itSeq (eVar 2))) (Pat.nm 17) folIn)
                              (swSeq (swIf (wP (oB (e2 eqZ (eVar 16) (eLst aNil)))) (swRetL (eC PyData.none)) swNil)
                                (swApp 12 (wCons (wCall 0 1 gOne (wCons (wP (eVar 16)) wNil)) wNil)))))
noncomputable def folS2 : WP Out := (swSeq
          (swIf
            (wP
              (oOr (oB (e2 eqZ (e2 ixD (eVar 1) (eC (PyData.int 3))) (eTup aNil))) (oB (e2 eqZ (eVar 2) (eLst aNil)))))
            (swRetL (eC PyData.none)) swNil)
          (swSeq
            (swAsg
              (Pat.tp
                (Pats.cons (Pat.nm 5)
                  (Pats.cons (Pat.nm 6) (Pats.cons (Pat.nm 7) (Pats.cons (Pat.nm 8) (Pats.cons (Pat.nm 9) Pats.nil))))))
              (wCall 0 1 gOne (wCons (wP (e2 ixD (eVar 1) (eC (PyData.int 3)))) wNil)))
            (swSeq
              (swAsg (Pat.nm 10)
                (wLc [19] (wP (itSeq (eVar 2))) (Pat.nm 19)
                  (wP
                    (oB
                      (e2 eqZ (e2 ixD (eVar 19) (eC (PyData.int 0)))
                        (e2 ixD (e2 ixD (eVar 6) (eC (PyData.int 0))) (eC (PyData.int 0))))))
                  (wP (eVar 19))))
              (swSeq
                (swAsg (Pat.nm 11)
                  (wCall 0 1 gOne
                    (wCons (wP (e2 addD (eVar 10) (eSl (eVar 2) pNone (pSome (eC (PyData.int 1)))))) wNil)))
                (swSeq
                  (swAsg (Pat.nm 4)
                    (w2
                      (wP
                        (e2 addD (e2 ixD (eVar 11) (eC (PyData.int 1)))
                          (e2 ixD (e2 ixD (eVar 6) (eC (PyData.int 0))) (eC (PyData.int 1)))))
                      (wCall 0 1 gNext
                        (wCons
                          (wP
                            (e2 addD
                              (e2 subD (e2 ixD (e2 ixD (eVar 6) (eC (PyData.int 0))) (eC (PyData.int 2)))
                                (e2 ixD (e2 ixD (eVar 6) (eC (PyData.int 0))) (eC (PyData.int 1))))
                              (eC (PyData.int 1))))
                          wNil))
                      addD))
                  (swSeq
                    (swIf (wP (oB (e2 ninD (e2 modD (eVar 4) (e2 ixD (eVar 1) (eC (PyData.int 0)))) (eVar 8))))
                      (swRetL (eC PyData.none)) swNil)
                    (swSeq (swOwn 12 (wB wNil lstO))
                      (swSeq
                        (swFor (wP (itSeq (eVar 6)))
                          (Pat.tp (Pats.cons (Pat.nm 13) (Pats.cons (Pat.nm 14) (Pats.cons (Pat.nm 15) Pats.nil))))
                          folBody)
                        (swRetL
                          (eTup
                            (aCons (eVar 5)
                              (aCons
                                (e2 ixD
                                  (eLst
                                    (aCons (eCall maxLD (aCons (eVar 12) aNil))
                                      (aCons (eCall minLD (aCons (eVar 12) aNil)) aNil)))
                                  (eCall intD (aCons (e2 eqZ (eVar 7) (eC (PyData.str (Str.ofString "oldest")))) aNil)))
                                (aCons (e2 addD (eVar 4) (eVar 9)) aNil)))))))))))))
def foR0 (X : Wd) (zs : List Fz) (x3 x4 : Option LV) : Rho := [some .pool, some (.dat X.d), some (.dat (.list (zs.map foD))), x3, x4, none, none, none, none, none, none, none, none, none, none, none, none, none, none, none]
theorem folA {X : Wd} (hX : X.ok) {zs : List Fz} (hne : 0 < X.ss.length) {b : Nat} {Q : Out → Nat → Prop} (hb : 2 ≤ b) (q : ∀ z b', Fol X z → b ≤ b' + 2 → Q (.rt (foD z)) b') : folS1.w (foR0 X zs none none) b Q := by
  have sl := hX.sl
  have n1 := hX.n1
  have n6 := hX.n6
  refine wOne (items := X.ss.map Sr.d) rfl rfl rfl (by rw [List.length_map]; exact hne) (by rw [List.length_map]; omega) (by omega) fun d b1 dm h1 => ?_
  obtain ⟨r, hr, rfl⟩ := List.mem_map.mp dm
  refine ⟨foR0 X zs (some (.dat r.d)) none, rfl, ?_⟩
  have j0 : L2.atI [PyData.str r.k, .int r.a, .int r.p, .int r.s, .int r.m] 0 = some (.str r.k) := atI_nat (j := 0) rfl
  have j1 : L2.atI [PyData.str r.k, .int r.a, .int r.p, .int r.s, .int r.m] 1 = some (.int r.a) := atI_nat (j := 1) rfl
  have j2 : L2.atI [PyData.str r.k, .int r.a, .int r.p, .int r.s, .int r.m] 2 = some (.int r.p) := atI_nat (j := 2) rfl
  have j3 : L2.atI [PyData.str r.k, .int r.a, .int r.p, .int r.s, .int r.m] 3 = some (.int r.s) := atI_nat (j := 3) rfl
  refine ⟨.int (r.s + (r.p - r.s) % X.n), ev_e2 (a := .int r.s) (b := .int ((r.p - r.s) % X.n)) (ev_e2 (a := r.d) (b := .int 3) rfl rfl j3) (ev_e2 (a := .int (r.p - r.s)) (b := .int X.n) (ev_e2 (a := .int r.p) (b := .int r.s) (ev_e2 (a := r.d) (b := .int 2) rfl rfl j2) (ev_e2 (a := r.d) (b := .int 3) rfl rfl j3) rfl) (ev_e2 (a := X.d) (b := .int 0) rfl rfl rfl) (if_pos (by omega))) rfl, foR0 X zs (some (.dat r.d)) (some (.dat (.int (r.s + (r.p - r.s) % X.n)))), rfl, ?_⟩
  refine ⟨.int (r.s + (r.p - r.s) % X.n), rfl, .int X.n, rfl, wNext (m := 5) rfl rfl (by decide) (by decide) (by omega) fun v b2 v0 v1 h2 => ⟨.int (X.n * v), mulX_int ⟨by omega, by omega⟩, .int (r.s + (r.p - r.s) % X.n + X.n * v), rfl, ?_⟩⟩
  refine ⟨foR0 X zs (some (.dat r.d)) (some (.dat (.int (r.s + (r.p - r.s) % X.n + X.n * v)))), rfl, ?_⟩
  refine ⟨foD (r.k, r.s + (r.p - r.s) % X.n + X.n * v - r.a, r.s + (r.p - r.s) % X.n + X.n * v), ?_, q _ b2 (fol_src hX hr v0) (by omega)⟩
  exact ev_tupX (ev_cons (ev_e2 (a := r.d) (b := .int 0) rfl rfl j0) (ev_cons (ev_e2 (a := .int (r.s + (r.p - r.s) % X.n + X.n * v)) (b := .int r.a) rfl (ev_e2 (a := r.d) (b := .int 1) rfl rfl j1) rfl) (ev_cons rfl rfl))) (by show 3 ≤ 1000; decide)
def foR (X : Wd) (zs : List Fz) (y : Wy) (M : Int) (x10 x11 : Option LV) (os : List Int) (x13 x14 x15 x16 x17 x18 : Option LV) : Rho := [some .pool, some (.dat X.d), some (.dat (.list (zs.map foD))), none, some (.dat (.int M)), some (.dat (.str y.k)), some (.dat (.tuple (y.ps.map Pt.d))), some (.dat (.str y.kp)), some (.dat (.tuple (y.hs.map .int))), some (.dat (.int y.w)), x10, x11, some (.own (os.map .int)), x13, x14, x15, x16, x17, x18, none]
def GoO (X : Wd) (M : Int) (q : Pt) (o : Int) : Prop := 0 ≤ M ∧ q.l ≤ M - o ∧ M - o ≤ q.g ∧ ∀ (u : Tb) (B : Int), TbG B X u → Shut X u → hasC X u q.k o (M - o) = true
theorem forN_zF {α : Type} {p : Pat} {body : WP Out} {e : α → D} {Q : Out → Nat → Prop} (I : List α → Rho → Prop) (hs : ∀ x xs ρ, I (x :: xs) ρ → ∃ ρ1, bindP p (e x) ρ = some ρ1 ∧ ∀ (b : Nat) (Q' : Out → Nat → Prop), (∀ ρ2, I xs ρ2 → Q' (.nx ρ2) b) → body.w ρ1 b Q') : ∀ (xs : List α) (ρ : Rho) (b : Nat), I xs ρ → (∀ ρ', I [] ρ' → Q (.nx ρ') b) → forN p body (xs.map e) ρ b Q
  | [], ρ, b, i, q => q ρ i
  | x :: xs, ρ, b, i, q => by
    obtain ⟨ρ1, e1, hw⟩ := hs x xs ρ i
    exact ⟨ρ1, e1, hw b _ fun ρ2 i2 => forN_zF I hs xs ρ2 b i2 q⟩
theorem fol_in {X : Wd} (hX : X.ok) {zs : List Fz} (hz : zs.length ≤ 40) (hF : ∀ z ∈ zs, Fol X z) {y : Wy} {M : Int} {x10 x11 : Option LV} {os : List Int} {q : Pt} (hq : q.ok X.ks) {x17 x18 : Option LV} {b : Nat} {Q : Out → Nat → Prop}
    (h : ∀ (xs : List Int) (x17 x18 : Option LV), xs.length ≤ 40 → (∀ x ∈ xs, GoO X M q x) → Q (.nx (foR X zs y M x10 x11 os (some (.dat (.str q.k))) (some (.dat (.int q.l))) (some (.dat (.int q.g))) (some (.dat (.list (xs.map .int)))) x17 x18)) b) :
    forN (.nm 17) folIn (zs.map foD) (foR X zs y M x10 x11 os (some (.dat (.str q.k))) (some (.dat (.int q.l))) (some (.dat (.int q.g))) (some (.dat (.list []))) x17 x18) b Q := by
  let R : List Int → Option LV → Option LV → Rho := fun xs x17 x18 => foR X zs y M x10 x11 os (some (.dat (.str q.k))) (some (.dat (.int q.l))) (some (.dat (.int q.g))) (some (.dat (.list (xs.map .int)))) x17 x18
  refine forN_zF (fun vs ρ => (∃ xs x17 x18, ρ = R xs x17 x18 ∧ xs.length + vs.length ≤ 40 ∧ ∀ x ∈ xs, GoO X M q x) ∧ ∀ z ∈ vs, Fol X z) (fun z vs ρ i => ?_) zs _ b ⟨⟨[], _, _, rfl, by rw [List.length_nil]; omega, fun x h => nomatch h⟩, hF⟩ (fun ρ' i => ?_)
  · obtain ⟨⟨xs, x17, x18, rfl, hl, hx⟩, hv⟩ := i
    have fz := hv z (by simp)
    obtain ⟨zk, zo, zb⟩ := z
    have hl : xs.length + (vs.length + 1) ≤ 40 := hl
    have rest : ∀ z ∈ vs, Fol X z := fun z h => hv z (by simp [h])
    refine ⟨R xs (some (.dat (foD (zk, zo, zb)))) x18, rfl, fun b Q' q' => ?_⟩
    have j0 : L2.atI [PyData.str zk, .int zo, .int zb] 0 = some (.str zk) := atI_nat (j := 0) rfl
    have j1 : L2.atI [PyData.str zk, .int zo, .int zb] 1 = some (.int zo) := atI_nat (j := 1) rfl
    have j2 : L2.atI [PyData.str zk, .int zo, .int zb] 2 = some (.int zb) := atI_nat (j := 2) rfl
    refine ⟨.int (M - zo), ev_e2 (a := .int M) (b := .int zo) rfl (ev_e2 (a := foD (zk, zo, zb)) (b := .int 1) rfl rfl j1) rfl, R xs (some (.dat (foD (zk, zo, zb)))) (some (.dat (.int (M - zo)))), rfl, ?_⟩
    have e1 : eqZ (.str zk) (.str q.k) = some (.bool (zk == q.k)) := eqZ_str (hX.ks _ fz.k).1 (hX.ks _ hq.k).1
    have e2 : ∀ b : Bool, (zk == q.k && decide (zb ≤ M)) = b → oAnd (oB (Dl.e2 eqZ (Dl.e2 ixD (eVar 17) (eC (PyData.int 0))) (eVar 13))) (oB (Dl.e2 leD (Dl.e2 ixD (eVar 17) (eC (PyData.int 2))) (eVar 4))) (shutR true (R xs (some (.dat (foD (zk, zo, zb)))) (some (.dat (.int (M - zo)))))) = some b := fun b hb => by
      have f1 : oB (Dl.e2 eqZ (Dl.e2 ixD (eVar 17) (eC (PyData.int 0))) (eVar 13)) (shutR true (R xs (some (.dat (foD (zk, zo, zb)))) (some (.dat (.int (M - zo)))))) = some (zk == q.k) := ev_oB (ev_e2 (a := .str zk) (b := .str q.k) (ev_e2 (a := foD (zk, zo, zb)) (b := .int 0) rfl rfl j0) rfl e1)
      have f2 : oB (Dl.e2 leD (Dl.e2 ixD (eVar 17) (eC (PyData.int 2))) (eVar 4)) (shutR true (R xs (some (.dat (foD (zk, zo, zb)))) (some (.dat (.int (M - zo)))))) = some (decide (zb ≤ M)) := ev_oB (ev_e2 (a := .int zb) (b := .int M) (ev_e2 (a := foD (zk, zo, zb)) (b := .int 2) rfl rfl j2) rfl rfl)
      cases hk : zk == q.k with
      | false =>
        rw [hk] at hb f1
        rw [← hb]
        exact ev_andF f1
      | true =>
        rw [hk] at hb f1
        rw [← hb]
        exact ev_andT f1 f2
    cases hc : (zk == q.k && decide (zb ≤ M)) with
    | false => exact ⟨false, e2 _ hc, q' _ ⟨⟨xs, _, _, rfl, by omega, hx⟩, rest⟩⟩
    | true =>
      have hc2 := Bool.and_eq_true_iff.mp hc
      have ek : zk = q.k := by simpa using hc2.1
      have hb := of_decide_eq_true hc2.2
      refine ⟨true, e2 _ hc, ?_⟩
      obtain ⟨c, hcd⟩ : ∃ c : Bool, c = (decide (q.l ≤ M - zo) && decide (M - zo ≤ q.g)) := ⟨_, rfl⟩
      have e3 : eChain leD leD (eVar 14) (eVar 18) (eVar 15) (shutR true (R xs (some (.dat (foD (zk, zo, zb)))) (some (.dat (.int (M - zo)))))) = some (.bool c) := by
        rw [hcd]
        show (((some (PyData.bool (decide (q.l ≤ M - zo)))).bind bB).bind fun k => if k = true then some (PyData.bool (decide (M - zo ≤ q.g))) else some (.bool false)) = _
        cases decide (q.l ≤ M - zo) <;> rfl
      let xs' : List Int := xs ++ (if c = true then [zo] else [])
      have hxl : xs'.length ≤ xs.length + 1 := by
        show (xs ++ _).length ≤ _
        rw [List.length_append]
        split <;> simp
      have e4 : Dl.e2 addD (eVar 16) (Dl.e2 mulX (eLst (aCons (Dl.e2 ixD (eVar 17) (eC (PyData.int 1))) aNil)) (eCall intD (aCons (eChain leD leD (eVar 14) (eVar 18) (eVar 15)) aNil))) (shutR true (R xs (some (.dat (foD (zk, zo, zb)))) (some (.dat (.int (M - zo)))))) = some (.list (xs'.map .int)) := by
        refine ev_e2 (a := .list (xs.map .int)) (b := .list ((if c = true then [zo] else []).map .int)) rfl (ev_e2 (a := .list [.int zo]) (b := .int (if c = true then 1 else 0)) (ev_lstX (ev_cons (ev_e2 (a := foD (zk, zo, zb)) (b := .int 1) rfl rfl j1) rfl) (by show 1 ≤ 1000; decide)) ((congrArg (fun o : Option (List D) => o.bind intD) (ev_cons (ds := []) e3 rfl)).trans rfl) ?_) ?_
        · cases c <;> rfl
        · rw [add_lst (sz (by rw [List.length_map, List.length_map]; split <;> simp <;> omega))]
          show some (PyData.list (xs.map .int ++ _)) = some (.list ((xs ++ _).map .int))
          rw [List.map_append]
      refine ⟨.list (xs'.map .int), e4, R xs' (some (.dat (foD (zk, zo, zb)))) (some (.dat (.int (M - zo)))), rfl, q' _ ⟨⟨xs', _, _, rfl, by omega, fun x hx' => ?_⟩, rest⟩⟩
      rcases List.mem_append.mp hx' with h1 | h1
      · exact hx x h1
      · cases hcc : c with
        | false => rw [hcc] at h1; cases h1
        | true =>
          rw [hcc] at h1
          have ex : x = zo := List.mem_singleton.mp h1
          subst ex
          have hd := Bool.and_eq_true_iff.mp (hcd.symm.trans hcc)
          have fa := fz.a
          have fb := fz.b
          have fa : x ≤ zb := fa
          have fb : 0 ≤ zb := fb
          refine ⟨by omega, of_decide_eq_true hd.1, of_decide_eq_true hd.2, fun u B g sh => ?_⟩
          have hh := fz.h u B g sh
          have hh : hasC X u zk x (zb - x) = true := hh
          rw [ek] at hh
          exact hasC_age g hX hq.k (by omega) (by omega) hh
  · obtain ⟨⟨xs, x17, x18, rfl, hl, hx⟩, _⟩ := i
    exact h xs x17 x18 (by have hl : xs.length + 0 ≤ 40 := hl; omega) hx
theorem fol_for {X : Wd} (hX : X.ok) {zs : List Fz} (hz : zs.length ≤ 40) (hF : ∀ z ∈ zs, Fol X z) {y : Wy} (yo : y.ok X.n X.ks) {M : Int} {x10 x11 : Option LV} {Q : Out → Nat → Prop} : ∀ (ps done : List Pt) (os : List Int) (x13 x14 x15 x16 x17 x18 : Option LV) (b : Nat), done ++ ps = y.ps → Prt X M done os → (done = [] ∨ 0 ≤ M) → ps.length ≤ b → (∀ b', b ≤ b' + ps.length → Q (.rt .none) b') →
    (∀ os' x13 x14 x15 x16 x17 x18 b', Prt X M y.ps os' → 0 ≤ M → b ≤ b' + ps.length → Q (.nx (foR X zs y M x10 x11 os' x13 x14 x15 x16 x17 x18)) b') →
    forN (.tp (.cons (.nm 13) (.cons (.nm 14) (.cons (.nm 15) .nil)))) folBody (ps.map Pt.d) (foR X zs y M x10 x11 os x13 x14 x15 x16 x17 x18) b Q
  | [], done, os, x13, x14, x15, x16, x17, x18, b, hd, hp, hM, hb, q0, q1 => by
    rw [List.append_nil] at hd
    have p1 := yo.p1
    refine q1 os _ _ _ _ _ _ b (hd ▸ hp) ?_ (by omega)
    rcases hM with rfl | h
    · rw [← hd] at p1
      cases p1
    · exact h
  | q :: ps, done, os, x13, x14, x15, x16, x17, x18, b, hd, hp, hM, hb, q0, q1 => by
    have hq : q.ok X.ks := yo.ps q (by rw [← hd]; simp)
    have hb : ps.length + 1 ≤ b := hb
    have p3 := yo.p3
    have ol : os.length ≤ 3 := by
      have h1 := congrArg List.length hd
      have h2 := hp.inW.len
      rw [List.length_append] at h1
      rw [List.length_map] at h2
      omega
    refine ⟨foR X zs y M x10 x11 os (some (.dat (.str q.k))) (some (.dat (.int q.l))) (some (.dat (.int q.g))) x16 x17 x18, rfl, ?_⟩
    refine ⟨.list [], rfl, foR X zs y M x10 x11 os (some (.dat (.str q.k))) (some (.dat (.int q.l))) (some (.dat (.int q.g))) (some (.dat (.list []))) x17 x18, rfl, ?_⟩
    refine ⟨zs.map foD, rfl, fol_in hX hz hF hq fun xs x17 x18 hl hx => ?_⟩
    cases xs with
    | nil => exact ⟨true, ev_oB (ev_e2 (a := .list []) (b := .list []) rfl rfl rfl), .none, rfl, q0 b (by omega)⟩
    | cons x0 xr =>
      refine ⟨false, ev_oB (ev_e2 (a := .list ((x0 :: xr).map .int)) (b := .list []) rfl rfl rfl), ?_⟩
      have hl : xr.length + 1 ≤ 40 := hl
      refine ⟨os.map .int, rfl, wOne (items := (x0 :: xr).map .int) rfl rfl rfl (by show 0 < ((x0 :: xr).map PyData.int).length; simp) (by rw [List.length_map]; show xr.length + 1 ≤ 1000000; omega) (by omega) fun d b2 dm h2 => ?_⟩
      obtain ⟨x, hxm, rfl⟩ := List.mem_map.mp dm
      obtain ⟨gM, gl, gg, gh⟩ := hx x hxm
      refine ⟨_, rfl, .int x, rfl, Nat.lt_of_lt_of_le (show (os.map PyData.int).length < 100 by rw [List.length_map]; omega) (by decide), ?_⟩
      have := fol_for hX hz hF yo (M := M) (x10 := x10) (x11 := x11) (Q := Q) ps (done ++ [q]) (os ++ [x]) (some (.dat (.str q.k))) (some (.dat (.int q.l))) (some (.dat (.int q.g))) (some (.dat (.list ((x0 :: xr).map .int)))) x17 x18 b2 (by rw [List.append_assoc]; exact hd) (Prt.app ⟨gl, gg, gh⟩ hp) (.inr gM) (by omega) (fun b' h' => q0 b' (by show b ≤ b' + (ps.length + 1); omega)) (fun os' x13 x14 x15 x16 x17 x18 b' hp' hM' h' => q1 os' _ _ _ _ _ _ b' hp' hM' (by show b ≤ b' + (ps.length + 1); omega))
      have em : (os ++ [x]).map PyData.int = os.map .int ++ [.int x] := by rw [List.map_append]; rfl
      unfold foR at this
      rw [em] at this
      exact this
end Dl
namespace Dl
open PySem PySem.Spec PyProof.Rows L2 Rt
theorem cut1z {α : Type} {xs : List α} : cutD xs none (some 1) = xs.take 1 := by
  unfold cutD
  rw [HT.sIx_none, show (some (1 : Int)) = some ((1 : Nat) : Int) from rfl, HT.sIx_nat, List.drop_zero, Nat.sub_zero]
  by_cases h : 1 ≤ xs.length
  · rw [Nat.min_eq_left h]
  · rw [Nat.min_eq_right (by omega), List.take_length, List.take_of_length_le (by omega)]
theorem folB {X : Wd} (hX : X.ok) {zs : List Fz} (hz : zs.length ≤ 40) (hF : ∀ z ∈ zs, Fol X z) {b : Nat} {Q : Out → Nat → Prop} (hb : 6 ≤ b) (q0 : ∀ b', b ≤ b' + 6 → Q (.rt .none) b') (q1 : ∀ z b', Fol X z → b ≤ b' + 6 → Q (.rt (foD z)) b') : folS2.w (foR0 X zs none none) b Q := by
  have wl := hX.wl
  have n1 := hX.n1
  have t1 : oB (e2 eqZ (e2 ixD (eVar 1) (eC (PyData.int 3))) (eTup aNil)) (shutR true (foR0 X zs none none)) = some (X.ws.map Wy.d).isEmpty := ev_oB (ev_e2 (a := .tuple (X.ws.map Wy.d)) (b := .tuple []) (ev_e2 (a := X.d) (b := .int 3) rfl rfl rfl) rfl rfl)
  have t2 : oB (e2 eqZ (eVar 2) (eLst aNil)) (shutR true (foR0 X zs none none)) = some (zs.map foD).isEmpty := ev_oB (ev_e2 (a := .list (zs.map foD)) (b := .list []) rfl rfl rfl)
  by_cases hw : X.ws.length = 0
  · have e : X.ws = [] := List.length_eq_zero_iff.mp hw
    rw [e] at t1
    exact ⟨true, ev_orT t1, .none, rfl, q0 b (by omega)⟩
  by_cases hzs : zs.length = 0
  · have e : zs = [] := List.length_eq_zero_iff.mp hzs
    have t1' : (X.ws.map Wy.d).isEmpty = false := by
      cases h : X.ws with
      | nil => rw [h] at hw; exact absurd rfl hw
      | cons _ _ => rfl
    rw [t1'] at t1
    have t2' : (zs.map foD).isEmpty = true := by rw [e]; rfl
    rw [t2'] at t2
    exact ⟨true, ev_orF t1 t2, .none, rfl, q0 b (by omega)⟩
  have t1' : (X.ws.map Wy.d).isEmpty = false := by
    cases h : X.ws with
    | nil => rw [h] at hw; exact absurd rfl hw
    | cons _ _ => rfl
  have t2' : (zs.map foD).isEmpty = false := by
    cases h : zs with
    | nil => rw [h] at hzs; exact absurd rfl hzs
    | cons _ _ => rfl
  rw [t1'] at t1
  rw [t2'] at t2
  refine ⟨false, ev_orF t1 t2, ?_⟩
  refine wOne (items := X.ws.map Wy.d) rfl rfl rfl (by rw [List.length_map]; omega) (by rw [List.length_map]; omega) (by omega) fun d b1 dm h1 => ?_
  obtain ⟨y, hy, rfl⟩ := List.mem_map.mp dm
  have yo := hX.ws y hy
  have p1 := yo.p1
  have p3 := yo.p3
  obtain ⟨q, qr, eq⟩ : ∃ q qr, y.ps = q :: qr := by
    cases h : y.ps with
    | nil => rw [h] at p1; cases p1
    | cons q qr => exact ⟨q, qr, rfl⟩
  have hq : q.ok X.ks := yo.ps q (by rw [eq]; simp)
  let RB : Option LV → Option LV → Option LV → Option LV → Rho := fun x4 x10 x11 x12 => [some .pool, some (.dat X.d), some (.dat (.list (zs.map foD))), none, x4, some (.dat (.str y.k)), some (.dat (.tuple (y.ps.map Pt.d))), some (.dat (.str y.kp)), some (.dat (.tuple (y.hs.map .int))), some (.dat (.int y.w)), x10, x11, x12, none, none, none, none, none, none, none]
  refine ⟨RB none none none none, rfl, ?_⟩
  have i0 : L2.atI (y.ps.map Pt.d) 0 = some q.d := by
    rw [eq]
    exact atI_nat (j := 0) rfl
  have k0 : L2.atI [PyData.str q.k, .int q.l, .int q.g] 0 = some (.str q.k) := atI_nat (j := 0) rfl
  have k1 : L2.atI [PyData.str q.k, .int q.l, .int q.g] 1 = some (.int q.l) := atI_nat (j := 1) rfl
  have k2 : L2.atI [PyData.str q.k, .int q.l, .int q.g] 2 = some (.int q.g) := atI_nat (j := 2) rfl
  refine ⟨zs.map foD, rfl, lcN_some (by show 19 < 20; decide) 0 (zs.map foD) b1 _ (by omega) (fun x hx b Q hb q' => ?_) (fun r b2 hs h2 => ?_) (fun x => rfl)⟩
  · obtain ⟨z, hzm, rfl⟩ := List.mem_map.mp hx
    obtain ⟨zk, zo, zb⟩ := z
    have j0 : L2.atI [PyData.str zk, .int zo, .int zb] 0 = some (.str zk) := atI_nat (j := 0) rfl
    exact ⟨zk == q.k, ev_oB (ev_e2 (a := .str zk) (b := .str q.k) (ev_e2 (a := foD (zk, zo, zb)) (b := .int 0) rfl rfl j0) (ev_e2 (a := q.d) (b := .int 0) (ev_e2 (a := .tuple (y.ps.map Pt.d)) (b := .int 0) rfl rfl i0) rfl k0) (eqZ_str (hX.ks _ (hF _ hzm).k).1 (hX.ks _ hq.k).1)), q' _ _ (by omega)⟩
  obtain ⟨rs, hrs, rfl⟩ := List.sublist_map_iff.mp hs
  have rl := hrs.length_le
  refine ⟨RB none (some (.dat (.list (rs.map foD)))) none none, rfl, ?_⟩
  have ml : ((zs.map foD).take 1).length = 1 := by rw [List.length_take, List.length_map]; omega
  have eal : e2 addD (eVar 10) (eSl (eVar 2) pNone (pSome (eC (PyData.int 1)))) (shutR true (RB none (some (.dat (.list (rs.map foD)))) none none)) = some (.list (rs.map foD ++ (zs.map foD).take 1)) := by
    refine ev_e2 (a := .list (rs.map foD)) (b := .list ((zs.map foD).take 1)) rfl (ev_sl (d := .list (zs.map foD)) (l := none) (h := some 1) rfl rfl rfl ?_) (add_lst (sz (by rw [List.length_map, ml]; omega)))
    show some (PyData.list (cutD (zs.map foD) none (some 1))) = _
    rw [cut1z]
  refine wOne (items := rs.map foD ++ (zs.map foD).take 1) rfl eal rfl (by rw [List.length_append, ml]; omega) (by rw [List.length_append, ml, List.length_map]; omega) (by omega) fun d b3 dm h3 => ?_
  obtain ⟨z, hzm, rfl⟩ : ∃ z ∈ zs, d = foD z := by
    rcases List.mem_append.mp dm with h | h
    · obtain ⟨z, hz, rfl⟩ := List.mem_map.mp h
      exact ⟨z, hrs.subset hz, rfl⟩
    · obtain ⟨z, hz, rfl⟩ := List.mem_map.mp (List.mem_of_mem_take h)
      exact ⟨z, hz, rfl⟩
  obtain ⟨zk, zo, zb⟩ := z
  have j1 : L2.atI [PyData.str zk, .int zo, .int zb] 1 = some (.int zo) := atI_nat (j := 1) rfl
  refine ⟨RB none (some (.dat (.list (rs.map foD)))) (some (.dat (foD (zk, zo, zb)))) none, rfl, ?_⟩
  have l0 := hq.l0
  have lg := hq.lg
  have g1 := hq.g1
  refine ⟨.int (zo + q.l), ev_e2 (a := .int zo) (b := .int q.l) (ev_e2 (a := foD (zk, zo, zb)) (b := .int 1) rfl rfl j1) (ev_e2 (a := q.d) (b := .int 1) (ev_e2 (a := .tuple (y.ps.map Pt.d)) (b := .int 0) rfl rfl i0) rfl k1) rfl, ?_⟩
  refine wNext (m := q.g - q.l + 1) rfl (ev_e2 (a := .int (q.g - q.l)) (b := .int 1) (ev_e2 (a := .int q.g) (b := .int q.l) (ev_e2 (a := q.d) (b := .int 2) (ev_e2 (a := .tuple (y.ps.map Pt.d)) (b := .int 0) rfl rfl i0) rfl k2) (ev_e2 (a := q.d) (b := .int 1) (ev_e2 (a := .tuple (y.ps.map Pt.d)) (b := .int 0) rfl rfl i0) rfl k1) rfl) rfl rfl) (by omega) (by omega) (by omega) fun v b4 v0 v1 h4 => ?_
  obtain ⟨M, hM⟩ : ∃ M, M = zo + q.l + v := ⟨_, rfl⟩
  let RM : Option LV → Rho := fun x12 => RB (some (.dat (.int M))) (some (.dat (.list (rs.map foD)))) (some (.dat (foD (zk, zo, zb)))) x12
  refine ⟨.int M, by rw [hM]; rfl, RM none, rfl, ?_⟩
  have eh : oB (e2 ninD (e2 modD (eVar 4) (e2 ixD (eVar 1) (eC (PyData.int 0)))) (eVar 8)) (shutR true (RM none)) = some (!y.hs.any (· == M % X.n)) := ev_oB (ev_e2 (a := .int (M % X.n)) (b := .tuple (y.hs.map .int)) (ev_e2 (a := .int M) (b := .int X.n) rfl (ev_e2 (a := X.d) (b := .int 0) rfl rfl rfl) (if_pos (by omega))) rfl ((nin_tup (ok_int _).1 okT_int).trans (by rw [any_int])))
  cases hh : y.hs.any (· == M % X.n) with
  | false =>
    rw [hh] at eh
    exact ⟨true, eh, .none, rfl, q0 b4 (by omega)⟩
  | true =>
    rw [hh] at eh
    obtain ⟨h', hm', he'⟩ := List.any_eq_true.mp hh
    have hp : M % X.n ∈ y.hs := by
      have : h' = M % X.n := by simpa using he'
      rw [← this]
      exact hm'
    refine ⟨false, eh, ?_⟩
    refine ⟨.list [], rfl, [], rfl, by show 12 < 20; decide, ?_⟩
    refine ⟨y.ps.map Pt.d, rfl, fol_for hX hz hF yo (M := M) y.ps [] [] none none none none none none b4 rfl trivial (.inl rfl) (by omega) (fun b' h' => q0 b' (by omega)) (fun os x13 x14 x15 x16 x17 x18 b' hpr hM0 h' => ?_)⟩
    have ol : os.length = y.ps.length := by
      have := hpr.inW.len
      rw [List.length_map] at this
      exact this
    obtain ⟨ow, eo⟩ : ∃ o, ownO y (os.map (M - ·)) = some o := own_ex (by rw [List.length_map]; omega)
    have eg := own_org (m := M) eo
    have em : (os.map (M - ·)).map (fun a => M - a) = os := by
      rw [List.map_map]
      have : (fun a => M - a) ∘ (fun a => M - a) = (id : Int → Int) := by
        funext a
        show M - (M - a) = a
        omega
      rw [this, List.map_id]
    rw [em] at eg
    have e1 : minLD [.list (os.map .int)] = (leastI os).map .int := by
      show ((intsD (os.map PyData.int)).bind leastI).map _ = _
      rw [intsD.map]
      rfl
    have e2' : maxLD [.list (os.map .int)] = (mostI os).map .int := by
      show ((intsD (os.map PyData.int)).bind mostI).map _ = _
      rw [intsD.map]
      rfl
    obtain ⟨a1, a2, e3, e4⟩ : ∃ a1 a2, leastI os = some a1 ∧ mostI os = some a2 := by
      cases os with
      | nil => rw [← ol] at p1; cases p1
      | cons a r => exact ⟨_, _, rfl, rfl⟩
    rw [e3] at e1
    rw [e4] at e2'
    obtain ⟨Z, hZ⟩ : ∃ Z, Z = shutR false (foR X zs y M (some (.dat (.list (rs.map foD)))) (some (.dat (foD (zk, zo, zb)))) os x13 x14 x15 x16 x17 x18) := ⟨_, rfl⟩
    have v5 : eVar 5 Z = some (.str y.k) := by rw [hZ]; rfl
    have v7 : eVar 7 Z = some (.str y.kp) := by rw [hZ]; rfl
    have v12 : eVar 12 Z = some (.list (os.map .int)) := by rw [hZ]; rfl
    have v4 : eVar 4 Z = some (.int M) := by rw [hZ]; rfl
    have v9 : eVar 9 Z = some (.int y.w) := by rw [hZ]; rfl
    have c1 : eCall minLD (aCons (eVar 12) aNil) Z = some (.int a1) := (congrArg (fun o : Option (List D) => o.bind minLD) (ev_cons (ds := []) v12 rfl)).trans e1
    have c2 : eCall maxLD (aCons (eVar 12) aNil) Z = some (.int a2) := (congrArg (fun o : Option (List D) => o.bind maxLD) (ev_cons (ds := []) v12 rfl)).trans e2'
    have eorg : e2 ixD (eLst (aCons (eCall maxLD (aCons (eVar 12) aNil)) (aCons (eCall minLD (aCons (eVar 12) aNil)) aNil))) (eCall intD (aCons (e2 eqZ (eVar 7) (eC (PyData.str (Str.ofString "oldest")))) aNil)) Z = some (.int (M - ow)) := by
      rcases yo.kp with hk | hk
      · rw [if_pos hk, e3] at eg
        injection eg with eg
        have ek : eqZ (.str y.kp) (.str (Str.ofString "oldest")) = some (.bool true) := by
          rw [hk, eqZ_str (by decide +kernel) (by decide +kernel), show (Str.ofString "oldest" == Str.ofString "oldest") = true by decide +kernel]
        refine ev_e2 (a := .list [.int a2, .int a1]) (b := .int 1) (ev_lstX (ev_cons c2 (ev_cons c1 rfl)) (by show 2 ≤ 1000; decide)) ((congrArg (fun o : Option (List D) => o.bind intD) (ev_cons (ds := []) (ev_e2 (a := .str y.kp) (b := .str (Str.ofString "oldest")) v7 rfl ek) rfl)).trans rfl) ?_
        rw [← eg]
        rfl
      · rw [hk, if_neg (by decide +kernel), e4] at eg
        injection eg with eg
        have ek : eqZ (.str y.kp) (.str (Str.ofString "oldest")) = some (.bool false) := by
          rw [hk, eqZ_str (by decide +kernel) (by decide +kernel), show (Str.ofString "youngest" == Str.ofString "oldest") = false by decide +kernel]
        refine ev_e2 (a := .list [.int a2, .int a1]) (b := .int 0) (ev_lstX (ev_cons c2 (ev_cons c1 rfl)) (by show 2 ≤ 1000; decide)) ((congrArg (fun o : Option (List D) => o.bind intD) (ev_cons (ds := []) (ev_e2 (a := .str y.kp) (b := .str (Str.ofString "oldest")) v7 rfl ek) rfl)).trans rfl) ?_
        rw [← eg]
        rfl
    refine ⟨foD (y.k, M - ow, M + y.w), ?_, q1 _ b' (fol_made hX hy hp hM0 hpr eo) (by omega)⟩
    rw [← hZ]
    exact ev_tupX (ev_cons v5 (ev_cons eorg (ev_cons (ev_e2 (a := .int M) (b := .int y.w) v4 v9 rfl) rfl))) (by show 3 ≤ 1000; decide)
section
variable {P : Program} {w : World} {K : PySem.W.Frag} {mg : Str → Option Value} {base : Heap}
theorem ok_fol {f : Addr} {fd : FuncData} (F : Fun K "_law_followed" "_law_followed" s_law_followed f fd) (m_int : mg "int" = none) (m_min : mg "min" = none) (m_max : mg "max" = none) (C__law_draw : Cl P w K mg base 1 "_law_draw" ["_law_pool_here", "_law_many"] (spN 1 gNext)) (C__law_any : Cl P w K mg base 2 "_law_any" ["_law_pool_here", "_law_some"] (spN 1 gOne)) : FnOk P w K mg base CX0 3 f fd ["_law_pool_here", "_law_world_here", "_law_lot"] (spN 2 gFol) := by
  refine okFnN F sc_law_followed rfl fun cdv A outer s H E hr => ⟨_, (nSs_cons (nS_if (PW.pt (nW_and (nT_pure (dT_cmp (o_neZ hr.units) (dE_ix (dE_var (μ := true) (pv 1)) (dE_c (μ := true) pe_int)) (dE_tup (dA_nil (μ := true))) (nomark _))) (nW_and1 (PW.pt (nW_or (nT_pure (dT_cmp (o_eqZ hr.units) (dE_ix (dE_var (μ := true) (pv 1)) (dE_c (μ := true) pe_int)) (dE_tup (dA_nil (μ := true))) (nomark _))) (nW_or1 (nT_cmp (o_eqZ hr.units) (nE_draw C__law_draw (hr.mono (by omega)) (by rfl) (pv 0) (nA_cons (nE_pure (dE_c (μ := true) pe_int)) nA_nil)) (nE_pure (dE_c (μ := true) pe_int)) (nomark _))))))))
    (nSs_cons (nS_asg (K := K) (p := .nm 3) (ps_set (i := 3) sc_law_followed.nd rfl (.inl rfl) (nE_draw C__law_any (hr.mono (by omega)) (by rfl) (pv 0) (nA_cons (nE_pure (dE_ix (dE_var (μ := true) (pv 1)) (dE_c (μ := true) pe_int))) nA_nil))))
  (nSs_cons (nS_asg (K := K) (p := .nm 4) (ps_set (i := 4) sc_law_followed.nd rfl (.inl rfl) (nE_pure (dE_op o_add (dE_ix (dE_var (μ := true) (pv 3)) (dE_c (μ := true) pe_int)) (dE_op o_mod (dE_op o_sub (dE_ix (dE_var (μ := true) (pv 3)) (dE_c (μ := true) pe_int)) (dE_ix (dE_var (μ := true) (pv 3)) (dE_c (μ := true) pe_int))) (dE_ix (dE_var (μ := true) (pv 1)) (dE_c (μ := true) pe_int)))))))
  (nSs_cons (nS_asg (K := K) (p := .nm 4) (ps_set (i := 4) sc_law_followed.nd rfl (.inl rfl) (nE_op o_add (nE_pure (dE_var (μ := true) (pv 4))) (nE_op o_mulX (nE_pure (dE_ix (dE_var (μ := true) (pv 1)) (dE_c (μ := true) pe_int))) (nE_draw C__law_draw (hr.mono (by omega)) (by rfl) (pv 0) (nA_cons (nE_pure (dE_c (μ := true) pe_int)) nA_nil))))))
  (nSs_one (nS_retL (ps_ret (dE_tup (dA_cons (dE_ix (dE_var (μ := true) (pv 3)) (dE_c (μ := true) pe_int)) (dA_cons (dE_op o_sub (dE_var (μ := true) (pv 4)) (dE_ix (dE_var (μ := true) (pv 3)) (dE_c (μ := true) pe_int))) (dA_cons (dE_var (μ := true) (pv 4)) (dA_nil (μ := true))))))))))))
    nSs_nil)
  (nSs_cons (nS_if (nT_pure (PW.pt (dW_or (dT_cmp (o_eqZ hr.units) (dE_ix (dE_var (μ := true) (pv 1)) (dE_c (μ := true) pe_int)) (dE_tup (dA_nil (μ := true))) (nomark _)) (dW_or1 (dT_cmp (o_eqZ hr.units) (dE_var (μ := true) (pv 2)) (dE_lst (dA_nil (μ := true))) (nomark _))))))
    (nSs_one (nS_retL (ps_ret (dE_c (μ := true) pe_non))))
    nSs_nil)
  (nSs_cons (nS_asg (K := K) (p := (.tp (.cons (.nm 5) (.cons (.nm 6) (.cons (.nm 7) (.cons (.nm 8) (.cons (.nm 9) .nil))))))) (ps_asg (nE_draw C__law_any (hr.mono (by omega)) (by rfl) (pv 0) (nA_cons (nE_pure (dE_ix (dE_var (μ := true) (pv 1)) (dE_c (μ := true) pe_int))) nA_nil)) (pg_tup (by rfl) (pgs_cons (pg_name (i := 5) sc_law_followed.nd rfl (.inl rfl)) (pgs_cons (pg_name (i := 6) sc_law_followed.nd rfl (.inr rfl)) (pgs_cons (pg_name (i := 7) sc_law_followed.nd rfl (.inl rfl)) (pgs_cons (pg_name (i := 8) sc_law_followed.nd rfl (.inl rfl)) (pgs_cons (pg_name (i := 9) sc_law_followed.nd rfl (.inl rfl)) pgs_nil))))))))
  (nSs_cons (nS_lc (K := K) (p := (.nm 19)) (ps_setLc (i := 10) (own := [("_law_thing", 19)]) (g := gP K (.nm 19)) rfl sc_law_followed.nd rfl rfl (sw_true rfl rfl rfl (by decide +kernel)) (nI_pure (dI_seq (dE_var (μ := true) (pv 2)))) (blkOk_by (own := [("_law_thing", 19)]) (N := ["_law_pool_here", "_law_world_here", "_law_lot", "_law_source", "_law_moment", "_law_kind", "_law_parts", "_law_keeps", "_law_hours", "_law_wait", "_law_alike", "_law_first", "_law_taken", "_law_name", "_law_least", "_law_high", "_law_some", "_law_one", "_law_age", "_law_thing"]) (sc := defScope s_law_followed) (by decide +kernel)) (fun _ _ _ _ _ => (pg_name (i := 19) sc_law_followed.nd rfl (.inl rfl))) (fun _ _ _ _ _ => (pts_one (nT_pure (dT_cmp (o_eqZ hr.units) (dE_ix (dE_var (μ := true) (pv 19)) (dE_c (μ := true) pe_int)) (dE_ix (dE_ix (dE_var (μ := true) (pv 6)) (dE_c (μ := true) pe_int)) (dE_c (μ := true) pe_int)) (nomark _))))) (fun _ _ _ _ _ => (nE_pure (dE_var (μ := true) (pv 19))))))
  (nSs_cons (nS_asg (K := K) (p := .nm 11) (ps_set (i := 11) sc_law_followed.nd rfl (.inl rfl) (nE_draw C__law_any (hr.mono (by omega)) (by rfl) (pv 0) (nA_cons (nE_pure (dE_op o_add (dE_var (μ := true) (pv 10)) (dE_sl (dE_var (μ := true) (pv 2)) dO_none (dO_some (dE_c (μ := true) pe_int))))) nA_nil))))
  (nSs_cons (nS_asg (K := K) (p := .nm 4) (ps_set (i := 4) sc_law_followed.nd rfl (.inl rfl) (nE_op o_add (nE_pure (dE_op o_add (dE_ix (dE_var (μ := true) (pv 11)) (dE_c (μ := true) pe_int)) (dE_ix (dE_ix (dE_var (μ := true) (pv 6)) (dE_c (μ := true) pe_int)) (dE_c (μ := true) pe_int)))) (nE_draw C__law_draw (hr.mono (by omega)) (by rfl) (pv 0) (nA_cons (nE_pure (dE_op o_add (dE_op o_sub (dE_ix (dE_ix (dE_var (μ := true) (pv 6)) (dE_c (μ := true) pe_int)) (dE_c (μ := true) pe_int)) (dE_ix (dE_ix (dE_var (μ := true) (pv 6)) (dE_c (μ := true) pe_int)) (dE_c (μ := true) pe_int))) (dE_c (μ := true) pe_int))) nA_nil)))))
  (nSs_cons (nS_if (nT_pure (dT_cmp (o_nin (u65 hr)) (dE_op o_mod (dE_var (μ := true) (pv 4)) (dE_ix (dE_var (μ := true) (pv 1)) (dE_c (μ := true) pe_int))) (dE_var (μ := true) (pv 8)) (by rfl)))
    (nSs_one (nS_retL (ps_ret (dE_c (μ := true) pe_non))))
    nSs_nil)
  (nSs_cons (nS_own (ps_set (i := 12) sc_law_followed.nd rfl (.inl rfl) (nN_lst nA_nil)))
  (nSs_cons (nS_for (K := K) (p := (.tp (.cons (.nm 13) (.cons (.nm 14) (.cons (.nm 15) .nil))))) (ps_for PassesOwn.never rfl (nI_pure (dI_seq (dE_var (μ := true) (pv 6)))) (pg_tup (by rfl) (pgs_cons (pg_name (i := 13) sc_law_followed.nd rfl (.inl rfl)) (pgs_cons (pg_name (i := 14) sc_law_followed.nd rfl (.inl rfl)) (pgs_cons (pg_name (i := 15) sc_law_followed.nd rfl (.inl rfl)) pgs_nil))))
    (nSs_cons (nS_asg (K := K) (p := .nm 16) (ps_set (i := 16) sc_law_followed.nd rfl (.inl rfl) (nE_pure (dE_lst (dA_nil (μ := true))))))
  (nSs_cons (nS_for (K := K) (p := (.nm 17)) (ps_for PassesOwn.never rfl (nI_pure (dI_seq (dE_var (μ := true) (pv 2)))) (pg_name (i := 17) sc_law_followed.nd rfl (.inl rfl))
    (nSs_cons (nS_asg (K := K) (p := .nm 18) (ps_set (i := 18) sc_law_followed.nd rfl (.inl rfl) (nE_pure (dE_op o_sub (dE_var (μ := true) (pv 4)) (dE_ix (dE_var (μ := true) (pv 17)) (dE_c (μ := true) pe_int))))))
  (nSs_one (nS_if (nT_pure (PW.pt (dW_and (dT_cmp (o_eqZ hr.units) (dE_ix (dE_var (μ := true) (pv 17)) (dE_c (μ := true) pe_int)) (dE_var (μ := true) (pv 13)) (nomark _)) (dW_and1 (dT_cmp o_le (dE_ix (dE_var (μ := true) (pv 17)) (dE_c (μ := true) pe_int)) (dE_var (μ := true) (pv 4)) (nomark _))))))
    (nSs_one (nS_asg (K := K) (p := .nm 16) (ps_set (i := 16) sc_law_followed.nd rfl (.inl rfl) (nE_pure (dE_op o_add (dE_var (μ := true) (pv 16)) (dE_op o_mulX (dE_lst (dA_cons (dE_ix (dE_var (μ := true) (pv 17)) (dE_c (μ := true) pe_int)) (dA_nil (μ := true)))) (dE_callTy c_int (by rfl) m_int (by decide +kernel) (dA_cons (dE_chain o_le o_le (dE_var (μ := true) (pv 14)) (dE_var (μ := true) (pv 18)) (dE_var (μ := true) (pv 15))) (dA_nil (μ := true))))))))))
    nSs_nil)))))
  (nSs_cons (nS_if (nT_pure (dT_cmp (o_eqZ hr.units) (dE_var (μ := true) (pv 16)) (dE_lst (dA_nil (μ := true))) (nomark _)))
    (nSs_one (nS_retL (ps_ret (dE_c (μ := true) pe_non))))
    nSs_nil)
  (nSs_one (nS_app (K := K) (ps_expr (pe_bm PySem.F.plainAttrs_list PySem.F.slot_list_append PySem.F.type_list_append mt_append (pv 12) (nA_cons (nE_draw C__law_any (hr.mono (by omega)) (by rfl) (pv 0) (nA_cons (nE_pure (dE_var (μ := true) (pv 16))) nA_nil)) nA_nil))))))))))
  (nSs_one (nS_retL (ps_ret (dE_tup (dA_cons (dE_var (μ := true) (pv 5)) (dA_cons (dE_ix (dE_lst (dA_cons (dE_callB (c_maxL rfl) (by rfl) m_max (by decide +kernel) (dA_cons (dE_var (μ := true) (pv 12)) (dA_nil (μ := true)))) (dA_cons (dE_callB (c_minL rfl) (by rfl) m_min (by decide +kernel) (dA_cons (dE_var (μ := true) (pv 12)) (dA_nil (μ := true)))) (dA_nil (μ := true))))) (dE_callTy c_int (by rfl) m_int (by decide +kernel) (dA_cons (dE_cmp (o_eqZ hr.units) (dE_var (μ := true) (pv 7)) (dE_c (μ := true) pe_str) (nomark _)) (dA_nil (μ := true))))) (dA_cons (dE_op o_add (dE_var (μ := true) (pv 4)) (dE_var (μ := true) (pv 9))) (dA_nil (μ := true)))))))))))))))))), fun ds b Q l h => ?_⟩
  obtain ⟨⟨X, zs, rfl, hX, hz, hF⟩, hb, q⟩ := h
  have B : ∀ b1, 6 ≤ b1 → b ≤ b1 + 1 → folS2.w (foR0 X zs none none) b1 (TellsN Q) := fun b1 h1 h2 => folB hX hz hF h1 (fun b' h' => q _ b' ⟨X, zs, rfl, .inl rfl⟩ (by omega)) fun z b' fz h' => q _ b' ⟨X, zs, rfl, .inr ⟨z, rfl, fz⟩⟩ (by omega)
  have t1 : oB (e2 neZ (e2 ixD (eVar 1) (eC (PyData.int 2))) (eTup aNil)) (shutR true (foR0 X zs none none)) = some (!(X.ss.map Sr.d).isEmpty) := ev_oB (ev_e2 (a := .tuple (X.ss.map Sr.d)) (b := .tuple []) (ev_e2 (a := X.d) (b := .int 2) rfl rfl rfl) rfl rfl)
  have t2 : oB (e2 eqZ (e2 ixD (eVar 1) (eC (PyData.int 3))) (eTup aNil)) (shutR true (foR0 X zs none none)) = some (X.ws.map Wy.d).isEmpty := ev_oB (ev_e2 (a := .tuple (X.ws.map Wy.d)) (b := .tuple []) (ev_e2 (a := X.d) (b := .int 3) rfl rfl rfl) rfl rfl)
  cases hs : X.ss with
  | nil =>
    rw [hs] at t1
    exact ⟨false, t1, B b (by omega) (by omega)⟩
  | cons r0 rs =>
    have hne : 0 < X.ss.length := by rw [hs]; simp
    rw [hs] at t1
    have A : ∀ b1, 6 ≤ b1 → b ≤ b1 + 1 → folS1.w (foR0 X zs none none) b1 fun o b2 => match o with
        | .nx ρ' => folS2.w ρ' b2 (TellsN Q)
        | o => TellsN Q o b2 := fun b1 h1 h2 => folA hX hne (by omega) fun z b' fz h' => q _ b' ⟨X, zs, rfl, .inr ⟨z, rfl, fz⟩⟩ (by omega)
    refine ⟨true, t1, ?_⟩
    cases hw : X.ws with
    | nil =>
      rw [hw] at t2
      exact ⟨true, t2, A b (by omega) (by omega)⟩
    | cons w0 wr =>
      rw [hw] at t2
      refine ⟨false, t2, wNext (m := 3) rfl rfl (by decide) (by decide) (by omega) fun v n' v0 v1 hn => ⟨.int 0, rfl, .bool (v == 0), rfl, v == 0, rfl, ?_⟩⟩
      cases v == 0 with
      | true => exact A n' (by omega) hn
      | false => exact B n' (by omega) hn
end
end Dl
namespace Dl
open PySem PySem.Spec PyProof.Rows L2 Rt
def GtF (X : Wd) (t : Tb) : Prop := TbG 2000000000000000 X t ∧ Shut X t
theorem nl_tb (t : Tb) : nl (tbD t) = true := nlAll_of fun d hd => by
  obtain ⟨r, _, rfl⟩ := List.mem_map.mp hd
  exact nlAll_of fun d hd => by
    obtain ⟨s, _, rfl⟩ := List.mem_map.mp hd
    exact nlAll_of fun d hd => by
      obtain ⟨c, _, rfl⟩ := List.mem_map.mp hd
      cases c <;> rfl
noncomputable def hasBody : WP Out := (swSeq
                                        (swAsg (Pat.nm 11)
                                          (w2 (wP (eVar 9))
                                            (w2 (wP (e2 ixD (eVar 2) (eC (PyData.int 0))))
                                              (wCall 1 1 gOne
                                                (wCons
                                                  (wP
                                                    (eLst
                                                      (aCons (eC (PyData.int 0))
                                                        (aCons (eC (PyData.int 1))
                                                          (aCons (eC (PyData.int 2))
                                                            (aCons (e2 powD (eC (PyData.int 10)) (eC (PyData.int 9)))
                                                              aNil))))))
                                                  wNil))
                                              mulX)
                                            addD))
                                        (swSeq (swAsg (Pat.nm 12) (wP (e2 subD (eVar 10) (eVar 9))))
                                          (swIf
                                            (wP
                                              (oOr
                                                (oNot
                                                  (oB
                                                    (eCall (gN 5 SHas.f)
                                                      (aCons (eVar 2)
                                                        (aCons (eVar 7)
                                                          (aCons (eVar 8) (aCons (eVar 9) (aCons (eVar 12) aNil))))))))
                                                (oNot
                                                  (oB
                                                    (eCall (gN 5 SHas.f)
                                                      (aCons (eVar 2)
                                                        (aCons (eVar 7)
                                                          (aCons (eVar 8)
                                                            (aCons (eVar 11) (aCons (eVar 12) aNil))))))))))
                                            (swRetL (eC (PyData.bool false))) swNil)))
noncomputable def lackBody : WP Out := (swIf
                                              (wP
                                                (oB
                                                  (eCall (gN 3 SLkd.f)
                                                    (aCons (eVar 2)
                                                      (aCons (eVar 13)
                                                        (aCons
                                                          (eTup
                                                            (aCons (eVar 8)
                                                              (aCons (eVar 9)
                                                                (aCons (e2 subD (eVar 10) (eVar 9)) aNil))))
                                                          aNil))))))
                                              (swApp 14 (wCons (wP (eVar 8)) wNil)) swNil)
noncomputable def lackEnd : WP Out := (swIf
                                          (wTL
                                            (oAnd (oB (e2 neZ (eVar 14) (eLst aNil)))
                                              (oOr (oB (eCall (gN 2 sShu) (aCons (eVar 2) (aCons (eVar 13) aNil))))
                                                (oB
                                                  (e2 isND
                                                    (eCall (gN 2 SLeak.f) (aCons (eVar 2) (aCons (eVar 13) aNil)))
                                                    (eC PyData.none))))))
                                          (swRetL (eC (PyData.bool false))) swNil)
section
variable {P : Program} {w : World} {K : PySem.W.Frag} {mg : Str → Option Value} {base : Heap}
theorem ok_law {f : Addr} {fd : FuncData} (F : Fun K "law" "law" s_law f fd) (m_range : mg "range" = none)
    (C__law_pool : Cl P w K mg base 1 "_law_pool" ["_law_script"] (spDraws K)) (C__law_world : Cl P w K mg base 4 "_law_world" ["_law_pool_here", "_law_wide"] (spN 1 gWorld)) (C__law_followed : Cl P w K mg base 3 "_law_followed" ["_law_pool_here", "_law_world_here", "_law_lot"] (spN 2 gFol)) (C__law_any : Cl P w K mg base 2 "_law_any" ["_law_pool_here", "_law_some"] (spN 1 gOne)) (C__law_closed : Cl P w K mg base 4 "_law_closed" ["_law_world_here", "_law_sheet"] (spD 2 SClo.f)) (C__law_empty : Cl P w K mg base 1 "_law_empty" ["_law_world_here"] (spD 1 SEmp.f)) (C__law_table : Cl P w K mg base 5 "_law_table" ["_law_pool_here", "_law_world_here", "_law_peaks"] (spN 2 gTable)) (C_both : Cl P w K mg base 5 "both" ["world", "one", "other"] (spD 3 (SBoth hiC).f)) (C_has : Cl P w K mg base 2 "has" ["world", "table", "kind", "origin", "age"] (spD 5 SHas.f)) (C__law_loosened : Cl P w K mg base 2 "_law_loosened" ["_law_pool_here", "_law_world_here", "_law_sheet"] (spN 2 gLoo)) (C__law_lacked : Cl P w K mg base 3 "_law_lacked" ["_law_world_here", "_law_sheet", "_law_thing"] (spD 3 SLkd.f)) (C_is_shut : Cl P w K mg base 6 "is_shut" ["world", "thing"] (spD 2 sShu)) (C_leak : Cl P w K mg base 5 "leak" ["world", "table"] (spD 2 SLeak.f)) : FnOk P w K mg base CX0 7 f fd ["_law_script"] (spLaw K) := by
  refine F.ok sc_law (fun vs H Q E h => ?_) (fun cdv A outer s H vs Q E hr h => ?_)
  · obtain ⟨a, ns, rfl, _⟩ := h
    rfl
  · obtain ⟨a, ns, rfl, hS, hn, q⟩ := h
    refine ⟨_, pss_cons (ps_set (i := 1) sc_law.nd rfl (.inl rfl) (pe_cl C__law_pool (hr.mono (by omega)) (by rfl) (pa_cons (pv 0) pa_nil)))
      (nSs_cons (nS_asg (K := K) (p := .nm 2) (ps_set (i := 2) sc_law.nd rfl (.inl rfl) (nE_draw C__law_world (hr.mono (by omega)) (by rfl) (pv 1) (nA_cons (nE_pure (dE_c (μ := true) pe_bl)) nA_nil))))
  (nSs_cons (nS_own (ps_set (i := 3) sc_law.nd rfl (.inl rfl) (nN_lst nA_nil)))
  (nSs_cons (nS_for (K := K) (p := (.nm 4)) (ps_for PassesOwn.never rfl (nI_pure (dI_ran1 (by rfl) m_range (dA_cons (dE_c (μ := true) pe_int) (dA_nil (μ := true))))) (pg_name (i := 4) sc_law.nd rfl (.inl rfl))
    (nSs_cons (nS_asg (K := K) (p := .nm 5) (ps_set (i := 5) sc_law.nd rfl (.inl rfl) (nE_drawL C__law_followed (hr.mono (by omega)) (by rfl) (pv 1) (dA_cons (dE_var (μ := false) (pv 2)) (dA_cons (dE_var (μ := false) (pv 3)) (dA_nil (μ := false)))))))
  (nSs_one (nS_if (nT_pure (dT_cmp o_isnot (dE_var (μ := true) (pv 5)) (dE_c (μ := true) pe_non) (nomark _)))
    (nSs_one (nS_app (K := K) (ps_expr (pe_bm PySem.F.plainAttrs_list PySem.F.slot_list_append PySem.F.type_list_append mt_append (pv 3) (nA_cons (nE_pure (dE_var (μ := true) (pv 5))) nA_nil)))))
    nSs_nil)))))
  (nSs_cons (nS_own (ps_set (i := 6) sc_law.nd rfl (.inl rfl) (nN_lst (nA_cons (nE_pure (dE_cl C__law_closed (hr.mono (by omega)) (by rfl) (dA_cons (dE_var (μ := true) (pv 2)) (dA_cons (dE_cl C__law_empty (hr.mono (by omega)) (by rfl) (dA_cons (dE_var (μ := true) (pv 2)) (dA_nil (μ := true)))) (dA_nil (μ := true)))))) (nA_cons (nE_cl C__law_closed (hr.mono (by omega)) (by rfl) (nA_cons (nE_pure (dE_var (μ := true) (pv 2))) (nA_cons (nE_draw C__law_table (hr.mono (by omega)) (by rfl) (pv 1) (nA_cons (nE_pure (dE_var (μ := true) (pv 2))) (nA_cons (nE_pure (dE_c (μ := true) pe_bl)) nA_nil))) nA_nil))) nA_nil)))))
  (nSs_cons (nS_app (K := K) (ps_expr (pe_bm PySem.F.plainAttrs_list PySem.F.slot_list_append PySem.F.type_list_append mt_append (pv 6) (nA_cons (nE_cl C__law_closed (hr.mono (by omega)) (by rfl) (nA_cons (nE_pure (dE_var (μ := true) (pv 2))) (nA_cons (nE_draw C__law_table (hr.mono (by omega)) (by rfl) (pv 1) (nA_cons (nE_pure (dE_var (μ := true) (pv 2))) (nA_cons (nE_pure (dE_c (μ := true) pe_bl)) nA_nil))) nA_nil))) nA_nil))))
  (nSs_cons (nS_app (K := K) (ps_expr (pe_bm PySem.F.plainAttrs_list PySem.F.slot_list_append PySem.F.type_list_append mt_append (pv 6) (nA_cons (nE_loose (dE_cl C_both (hr.mono (by omega)) (by rfl) (dA_cons (dE_var (μ := true) (pv 2)) (dA_cons (dE_ix (dE_var (μ := true) (pv 6)) (dE_c (μ := true) pe_int)) (dA_cons (dE_ix (dE_var (μ := true) (pv 6)) (dE_c (μ := true) pe_int)) (dA_nil (μ := true))))))) nA_nil))))
  (nSs_cons (nS_frzO (i := 6) (nS_for (K := K) (p := (.nm 7)) (ps_for PassesOwn.never rfl (nI_pure (dI_seq (dE_var (μ := true) (pv 6)))) (pg_name (i := 7) sc_law.nd rfl (.inl rfl))
    (nSs_one (nS_frzO (i := 3) (nS_for (K := K) (p := (.tp (.cons (.nm 8) (.cons (.nm 9) (.cons (.nm 10) .nil))))) (ps_for PassesOwn.never rfl (nI_pure (dI_seq (dE_var (μ := true) (pv 3)))) (pg_tup (by rfl) (pgs_cons (pg_name (i := 8) sc_law.nd rfl (.inl rfl)) (pgs_cons (pg_name (i := 9) sc_law.nd rfl (.inl rfl)) (pgs_cons (pg_name (i := 10) sc_law.nd rfl (.inl rfl)) pgs_nil))))
    (nSs_cons (nS_asg (K := K) (p := .nm 11) (ps_set (i := 11) sc_law.nd rfl (.inl rfl) (nE_op o_add (nE_pure (dE_var (μ := true) (pv 9))) (nE_op o_mulX (nE_pure (dE_ix (dE_var (μ := true) (pv 2)) (dE_c (μ := true) pe_int))) (nE_draw C__law_any (hr.mono (by omega)) (by rfl) (pv 1) (nA_cons (nE_pure (dE_lst (dA_cons (dE_c (μ := true) pe_int) (dA_cons (dE_c (μ := true) pe_int) (dA_cons (dE_c (μ := true) pe_int) (dA_cons (dE_op o_pow (dE_c (μ := true) pe_int) (dE_c (μ := true) pe_int)) (dA_nil (μ := true)))))))) nA_nil))))))
  (nSs_cons (nS_asg (K := K) (p := .nm 12) (ps_set (i := 12) sc_law.nd rfl (.inl rfl) (nE_pure (dE_op o_sub (dE_var (μ := true) (pv 10)) (dE_var (μ := true) (pv 9))))))
  (nSs_one (nS_if (nT_pure (PW.pt (dW_or (dT_not (dT_val (dE_cl C_has (hr.mono (by omega)) (by rfl) (dA_cons (dE_var (μ := true) (pv 2)) (dA_cons (dE_var (μ := true) (pv 7)) (dA_cons (dE_var (μ := true) (pv 8)) (dA_cons (dE_var (μ := true) (pv 9)) (dA_cons (dE_var (μ := true) (pv 12)) (dA_nil (μ := true)))))))))) (dW_or1 (dT_not (dT_val (dE_cl C_has (hr.mono (by omega)) (by rfl) (dA_cons (dE_var (μ := true) (pv 2)) (dA_cons (dE_var (μ := true) (pv 7)) (dA_cons (dE_var (μ := true) (pv 8)) (dA_cons (dE_var (μ := true) (pv 11)) (dA_cons (dE_var (μ := true) (pv 12)) (dA_nil (μ := true))))))))))))))
    (nSs_one (nS_retL (ps_ret (dE_c (μ := true) pe_bl))))
    nSs_nil)))))))))))
  (nSs_cons (nS_for (K := K) (p := (.nm 4)) (ps_for PassesOwn.never rfl (nI_pure (dI_ran1 (by rfl) m_range (dA_cons (dE_c (μ := true) pe_int) (dA_nil (μ := true))))) (pg_name (i := 4) sc_law.nd rfl (.inl rfl))
    (nSs_cons (nS_asg (K := K) (p := .nm 13) (ps_set (i := 13) sc_law.nd rfl (.inl rfl) (nE_draw C__law_loosened (hr.mono (by omega)) (by rfl) (pv 1) (nA_cons (nE_pure (dE_var (μ := true) (pv 2))) (nA_cons (nE_loose (dE_ix (dE_var (μ := true) (pv 6)) (dE_c (μ := true) pe_int))) nA_nil)))))
  (nSs_cons (nS_own (ps_set (i := 14) sc_law.nd rfl (.inl rfl) (nN_lst nA_nil)))
  (nSs_cons (nS_frzO (i := 3) (nS_for (K := K) (p := (.tp (.cons (.nm 8) (.cons (.nm 9) (.cons (.nm 10) .nil))))) (ps_for PassesOwn.never rfl (nI_pure (dI_seq (dE_var (μ := true) (pv 3)))) (pg_tup (by rfl) (pgs_cons (pg_name (i := 8) sc_law.nd rfl (.inl rfl)) (pgs_cons (pg_name (i := 9) sc_law.nd rfl (.inl rfl)) (pgs_cons (pg_name (i := 10) sc_law.nd rfl (.inl rfl)) pgs_nil))))
    (nSs_one (nS_if (nT_pure (dT_val (dE_cl C__law_lacked (hr.mono (by omega)) (by rfl) (dA_cons (dE_var (μ := true) (pv 2)) (dA_cons (dE_var (μ := true) (pv 13)) (dA_cons (dE_tup (dA_cons (dE_var (μ := true) (pv 8)) (dA_cons (dE_var (μ := true) (pv 9)) (dA_cons (dE_op o_sub (dE_var (μ := true) (pv 10)) (dE_var (μ := true) (pv 9))) (dA_nil (μ := true)))))) (dA_nil (μ := true))))))))
    (nSs_one (nS_app (K := K) (ps_expr (pe_bm PySem.F.plainAttrs_list PySem.F.slot_list_append PySem.F.type_list_append mt_append (pv 14) (nA_cons (nE_pure (dE_var (μ := true) (pv 8))) nA_nil)))))
    nSs_nil)))))
  (nSs_one (nS_if (nT_loose (PW.pt (dW_and (dT_cmp (o_neZ hr.units) (dE_var (μ := true) (pv 14)) (dE_lst (dA_nil (μ := true))) (nomark _)) (dW_and1 (PW.pt (dW_or (dT_val (dE_cl C_is_shut (hr.mono (by omega)) (by rfl) (dA_cons (dE_var (μ := true) (pv 2)) (dA_cons (dE_var (μ := true) (pv 13)) (dA_nil (μ := true)))))) (dW_or1 (dT_cmp o_is (dE_cl C_leak (hr.mono (by omega)) (by rfl) (dA_cons (dE_var (μ := true) (pv 2)) (dA_cons (dE_var (μ := true) (pv 13)) (dA_nil (μ := true))))) (dE_c (μ := true) pe_non) (nomark _)))))))))
    (nSs_one (nS_retL (ps_ret (dE_c (μ := true) pe_bl))))
    nSs_nil)))))))
  (nSs_one (nS_retL (ps_ret (dE_c (μ := true) pe_bl)))))))))))), ?_⟩
    refine ⟨.ref a, rfl, a, ns, rfl, hS, hn, fun g H1 _ F1 => ?_⟩
    let R : Option LV → Option LV → Option LV → Option LV → Option LV → Option LV → Option LV → Option LV → Option LV → Option LV → Option LV → Option LV → Option LV → Rho := fun x2 x3 x4 x5 x6 x7 x8 x9 x10 x11 x12 x13 x14 => [none, some .pool, x2, x3, x4, x5, x6, x7, x8, x9, x10, x11, x12, x13, x14]
    refine ⟨g, g.own, H1, R none none none none none none none none none none none none none, 10000000000000000000, ⟨.refl, fun p o => g.alive F1 o, fun p o => g.alive F1 o, fun p o => o, F1, rfl, fun i d e => ?_, fun i d e => ?_, fun i d e => ?_, fun i e => ?_, fun i j a b p e => ?_⟩, ?_⟩
    · match i, e with
      | 0, e | 1, e | 2, e | 3, e | 4, e | 5, e | 6, e | 7, e | 8, e | 9, e | 10, e | 11, e | 12, e | 13, e | 14, e => cases e
      | i + 15, e => cases e
    · match i, e with
      | 0, e | 1, e | 2, e | 3, e | 4, e | 5, e | 6, e | 7, e | 8, e | 9, e | 10, e | 11, e | 12, e | 13, e | 14, e => cases e
      | i + 15, e => cases e
    · match i, e with
      | 0, e | 1, e | 2, e | 3, e | 4, e | 5, e | 6, e | 7, e | 8, e | 9, e | 10, e | 11, e | 12, e | 13, e | 14, e => cases e
      | i + 15, e => cases e
    · match i, e with
      | 1, e => rfl
      | 0, e | 2, e | 3, e | 4, e | 5, e | 6, e | 7, e | 8, e | 9, e | 10, e | 11, e | 12, e | 13, e | 14, e => cases e
      | i + 15, e => cases e
    · match i, e with
      | 0, e | 1, e | 2, e | 3, e | 4, e | 5, e | 6, e | 7, e | 8, e | 9, e | 10, e | 11, e | 12, e | 13, e | 14, e => cases e
      | i + 15, e => cases e
    refine WP.m _ (P := fun o b => o = .rt (.bool true)) (fun o b' e => ?_) ?_
    · subst e
      intro v H' _ _ r
      cases r
      exact q H'
    refine ⟨rfl, .bool false, rfl, _, rfl, rfl, rfl, by decide, fun W b1 hW h1 => ?_⟩
    obtain ⟨X, rfl, hX, nd⟩ := hW
    refine ⟨R (some (.dat X.d)) none none none none none none none none none none none none, rfl, ?_⟩
    refine ⟨.list [], rfl, [], rfl, by show 3 < 15; decide, ?_⟩
    let S : List Fz → Option LV → Option LV → Rho := fun zs x4 x5 => R (some (.dat X.d)) (some (.own (zs.map foD))) x4 x5 none none none none none none none none none
    refine ⟨rgD 0 40, ev_itG (ds := [.int 40]) rfl (ran1_ok (j := 40) (by decide) (by decide)), forN_cost 40 10 (fun k ρ => ∃ zs x4 x5, ρ = S zs x4 x5 ∧ zs.length ≤ k ∧ ∀ z ∈ zs, Fol X z) (rgD 0 40) 0 _ b1 (by rw [rgD_len]; decide) ⟨[], _, _, rfl, Nat.le_refl _, fun z h => nomatch h⟩ (by rw [rgD_len]; omega) (fun x hx k ρ b hk i hb => ?_) (fun ρ b2 i h2 => ?_)⟩
    · obtain ⟨zs, x4, x5, rfl, hl, hF⟩ := i
      obtain ⟨tn, _, rfl⟩ := List.mem_map.mp hx
      refine ⟨S zs (some (.dat (.int (0 + tn)))) x5, rfl, fun Q' q' => ?_⟩
      refine ⟨rfl, [X.d, .list (zs.map foD)], rfl, rfl, ⟨X, zs, rfl, hX, by omega, hF⟩, hb, fun d n' hd hn => ?_⟩
      obtain ⟨X', zs', e, hd⟩ := hd
      injection e with e1 e
      injection e with e2 e
      injection e2 with e2
      cases Wd.inj e1
      cases map_inj foD.inj e2
      rcases hd with rfl | ⟨z, rfl, fz⟩
      · refine ⟨rfl, S zs (some (.dat (.int (0 + tn)))) (some (.dat .none)), rfl, ?_⟩
        exact ⟨false, ev_oB (ev_e2 (a := .none) (b := .none) rfl rfl rfl), q' _ n' ⟨zs, _, _, rfl, by omega, hF⟩ (by omega)⟩
      · refine ⟨rfl, S zs (some (.dat (.int (0 + tn)))) (some (.dat (foD z))), rfl, ?_⟩
        refine ⟨true, ev_oB (ev_e2 (a := foD z) (b := .none) rfl rfl rfl), ?_⟩
        refine ⟨zs.map foD, rfl, foD z, rfl, _, rfl, foD z, rfl, Nat.lt_of_lt_of_le (show (zs.map foD).length < 100 by rw [List.length_map]; omega) (by decide), q' _ n' ⟨zs ++ [z], (some (.dat (.int (0 + tn)))), (some (.dat (foD z))), ?_, by rw [List.length_append]; simp; omega, fun u hu => ?_⟩ (by omega)⟩
        · show _ = R _ (some (.own ((zs ++ [z]).map foD))) _ _ _ _ _ _ _ _ _ _ _
          rw [List.map_append]
          rfl
        · rcases List.mem_append.mp hu with h | h
          · exact hF u h
          · rw [List.mem_singleton.mp h]
            exact fz
    obtain ⟨zs, x4, x5, rfl, hl, hF⟩ := i
    rw [rgD_len] at hl h2
    have ie : Inv X (empT X) := Inv.of emp_g hX
    obtain ⟨LS, hLS⟩ : ∃ LS, LS = cloT X (empT X) := ⟨_, rfl⟩
    have eE : SEmp.f [X.d] = some (tbD (empT X)) := Sem.of (S := SEmp) (x := X) hX
    have eL : SClo.f [X.d, tbD (empT X)] = some (tbD LS) := by
      rw [hLS]
      exact Sem.of (S := SClo) (x := (X, empT X)) ⟨hX, ie⟩
    have hG : ∀ t, Inv X t → GtF X (cloT X t) := fun t it => by
      have ic := clo_inv hX it
      exact ⟨ic.g.up (by have := ic.n; unfold bnd; omega), clo_shut hX it⟩
    have gL : GtF X LS := by rw [hLS]; exact hG _ ie
    have ivL : Iv X LS := by rw [hLS]; exact clo_iv hX (Iv.emp hX)
    refine ⟨tbD LS, ev_call (ds := [X.d, tbD (empT X)]) (ev_cons rfl (ev_cons (ev_call (ds := [X.d]) rfl rfl eE) rfl)) rfl eL, ?_⟩
    refine ⟨X.d, rfl, rfl, X.d, rfl, .bool false, rfl, _, rfl, _, rfl, rfl, ⟨X, rfl, hX⟩, by omega, fun d1 b3 hd1 h3 => ?_⟩
    obtain ⟨X1, t1, e, rfl, tg1, fr1⟩ := hd1
    injection e with e1 e
    cases Wd.inj e1
    have it1 : Inv X t1 := Inv.of tg1 hX
    refine ⟨_, rfl, _, rfl, tbD (cloT X t1), Sem.of (S := SClo) (x := (X, t1)) ⟨hX, it1⟩, ?_⟩
    obtain ⟨T1, hT1⟩ : ∃ T1, T1 = cloT X t1 := ⟨_, rfl⟩
    rw [← hT1]
    have g1 : GtF X T1 := by rw [hT1]; exact hG _ it1
    refine ⟨_, rfl, _, rfl, _, rfl, [tbD LS, tbD T1], rfl, by show 6 < 15; decide, ?_⟩
    refine ⟨[tbD LS, tbD T1], rfl, X.d, rfl, rfl, X.d, rfl, .bool false, rfl, _, rfl, _, rfl, rfl, ⟨X, rfl, hX⟩, by omega, fun d2 b4 hd2 h4 => ?_⟩
    obtain ⟨X2, t2, e, rfl, tg2, fr2⟩ := hd2
    injection e with e1 e
    cases Wd.inj e1
    have it2 : Inv X t2 := Inv.of tg2 hX
    obtain ⟨T2, hT2⟩ : ∃ T2, T2 = cloT X t2 := ⟨_, rfl⟩
    have g2 : GtF X T2 := by rw [hT2]; exact hG _ it2
    refine ⟨_, rfl, _, rfl, tbD T2, (by rw [hT2]; exact Sem.of (S := SClo) (x := (X, t2)) ⟨hX, it2⟩), _, rfl, tbD T2, rfl, Nat.lt_of_lt_of_le (show 2 < 100 by decide) (by decide), ?_⟩
    obtain ⟨T3, hT3⟩ : ∃ T3, T3 = zipT hiC T1 T2 := ⟨_, rfl⟩
    have g3 : GtF X T3 := by rw [hT3]; exact ⟨g1.1.hi g2.1, both_shut g1.1 g2.1 (by decide) hX g1.2 g2.2⟩
    have eB : (SBoth hiC).f [X.d, tbD T1, tbD T2] = some (tbD T3) := by
      rw [hT3]
      exact Sem.of (S := SBoth hiC) (x := (X.d, T1, T2)) trivial
    let L3 : List D := [tbD LS, tbD T1, tbD T2]
    have i1 : L2.atI L3 1 = some (tbD T1) := atI_nat (j := 1) rfl
    have i2 : L2.atI L3 2 = some (tbD T2) := atI_nat (j := 2) rfl
    refine ⟨L3, rfl, tbD T3, ev_call (ds := [X.d, tbD T1, tbD T2]) (ev_cons rfl (ev_cons (ev_e2 (a := .list L3) (b := .int 1) rfl rfl i1) (ev_cons (ev_e2 (a := .list L3) (b := .int 2) rfl rfl i2) rfl))) rfl eB, nl_tb _, _, rfl, tbD T3, rfl, Nat.lt_of_lt_of_le (show 3 < 100 by decide) (by decide), ?_⟩
    let AL : List Tb := [LS, T1, T2, T3]
    have hAL : ∀ t ∈ AL, GtF X t := fun t ht => by
      simp only [AL, List.mem_cons, List.not_mem_nil, or_false] at ht
      rcases ht with rfl | rfl | rfl | rfl
      · exact gL
      · exact g1
      · exact g2
      · exact g3
    let Lot : Option LV → Prop := fun x => x = some (.own (zs.map foD)) ∨ x = some (.dat (.list (zs.map foD)))
    let U : Option LV → Option LV → Option LV → Option LV → Option LV → Option LV → Option LV → Option LV → Option LV → Option LV → Rho := fun x3 x4 x7 x8 x9 x10 x11 x12 x13 x14 => R (some (.dat X.d)) x3 x4 x5 (some (.dat (.list (AL.map tbD)))) x7 x8 x9 x10 x11 x12 x13 x14
    have n1 := hX.n1
    have n6 := hX.n6
    refine .inl ⟨AL.map tbD, rfl, ?_⟩
    refine ⟨AL.map tbD, rfl, forN_cost 4 40 (fun k ρ => ∃ x3 x4 x7 x8 x9 x10 x11 x12, ρ = U x3 x4 x7 x8 x9 x10 x11 x12 none none ∧ Lot x3) (AL.map tbD) 0 _ b4 (by show 0 + 4 ≤ 4; decide) ⟨_, _, _, _, _, _, _, _, rfl, .inl rfl⟩ (by show 4 * 40 ≤ b4; omega) (fun x hx k ρ b hk i hb => ?_) (fun ρ b5 i h5 => ?_)⟩
    · obtain ⟨x3, x4, x7, x8, x9, x10, x11, x12, rfl, h3⟩ := i
      obtain ⟨v, hv, rfl⟩ := List.mem_map.mp hx
      obtain ⟨gv, sv⟩ := hAL v hv
      refine ⟨U x3 x4 (some (.dat (tbD v))) x8 x9 x10 x11 x12 none none, rfl, fun Q' q' => ?_⟩
      have main : ∀ x8 x9 x10 x11 x12, (forN (Pat.tp (Pats.cons (Pat.nm 8) (Pats.cons (Pat.nm 9) (Pats.cons (Pat.nm 10) Pats.nil)))) hasBody (zs.map foD) (U (some (.dat (.list (zs.map foD)))) x4 (some (.dat (tbD v))) x8 x9 x10 x11 x12 none none) b Q') := fun x8 x9 x10 x11 x12 => by
        refine forN_cost 40 1 (fun k ρ => ∃ x8 x9 x10 x11 x12, ρ = U (some (.dat (.list (zs.map foD)))) x4 (some (.dat (tbD v))) x8 x9 x10 x11 x12 none none) (zs.map foD) 0 _ b (by rw [List.length_map]; omega) ⟨_, _, _, _, _, rfl⟩ (by rw [List.length_map]; omega) (fun x hx k ρ b hk i hb => ?_) (fun ρ b5 i h5 => ?_)
        · obtain ⟨x8, x9, x10, x11, x12, rfl⟩ := i
          obtain ⟨z, hz, rfl⟩ := List.mem_map.mp hx
          have fz := hF z hz
          obtain ⟨zk, zo, zb⟩ := z
          have fa := fz.a
          have fa : zo ≤ zb := fa
          have fh := fz.h v _ gv sv
          have fh : hasC X v zk zo (zb - zo) = true := fh
          let V : Option LV → Option LV → Rho := fun x11 x12 => U (some (.dat (.list (zs.map foD)))) x4 (some (.dat (tbD v))) (some (.dat (.str zk))) (some (.dat (.int zo))) (some (.dat (.int zb))) x11 x12 none none
          refine ⟨V x11 x12, rfl, fun Q'' q'' => ?_⟩
          refine ⟨.int zo, rfl, .int X.n, rfl, ⟨rfl, .list [.int 0, .int 1, .int 2, .int 1000000000], rfl, _, rfl, rfl, oneL (by show 0 < 4; decide) (by show 4 ≤ 1000000; decide) hb fun d5 b6 dm h6 => ?_⟩⟩
          obtain ⟨m, rfl, m0⟩ : ∃ m : Int, d5 = .int m ∧ 0 ≤ m := by
            simp only [List.mem_cons, List.not_mem_nil, or_false] at dm
            rcases dm with rfl | rfl | rfl | rfl <;> exact ⟨_, rfl, by decide⟩
          have m1 := Int.mul_nonneg (show 0 ≤ X.n by omega) m0
          refine ⟨.int (X.n * m), mulX_int ⟨by omega, by omega⟩, .int (zo + X.n * m), rfl, V (some (.dat (.int (zo + X.n * m)))) x12, rfl, ?_⟩
          refine ⟨.int (zb - zo), rfl, V (some (.dat (.int (zo + X.n * m)))) (some (.dat (.int (zb - zo)))), rfl, ?_⟩
          have tok := gv.ok (by decide)
          have f1 : SHas.f [X.d, tbD v, .str zk, .int zo, .int (zb - zo)] = some (.bool true) := by
            refine (Sem.of (S := SHas) (x := (X, v, zk, zo, zb - zo)) ⟨hX, tok, fz.k, by omega⟩).trans ?_
            show some (PyData.bool (hasC X v zk zo (zb - zo))) = _
            rw [fh]
          have f2 : SHas.f [X.d, tbD v, .str zk, .int (zo + X.n * m), .int (zb - zo)] = some (.bool true) := by
            refine (Sem.of (S := SHas) (x := (X, v, zk, zo + X.n * m, zb - zo)) ⟨hX, tok, fz.k, by omega⟩).trans ?_
            show some (PyData.bool (hasC X v zk (zo + X.n * m) (zb - zo))) = _
            rw [hasC_up (by omega) (add_mul_mod _ _ _) fh]
          refine ⟨false, ev_orF (ev_not (b := true) (ev_oB (ev_call (ds := [X.d, tbD v, .str zk, .int zo, .int (zb - zo)]) rfl rfl f1))) (ev_not (b := true) (ev_oB (ev_call (ds := [X.d, tbD v, .str zk, .int (zo + X.n * m), .int (zb - zo)]) rfl rfl f2))), ?_⟩
          exact q'' _ b6 ⟨_, _, _, _, _, rfl⟩ h6
        · obtain ⟨x8, x9, x10, x11, x12, rfl⟩ := i
          rw [List.length_map] at h5
          exact q' _ b5 ⟨_, _, _, _, _, _, _, _, rfl, .inr rfl⟩ (by omega)
      rcases h3 with rfl | rfl
      · exact .inl ⟨zs.map foD, rfl, zs.map foD, rfl, main _ _ _ _ _⟩
      · exact .inr ⟨zs.map foD, rfl, main _ _ _ _ _⟩
    obtain ⟨x3, x4, x7, x8, x9, x10, x11, x12, rfl, h3⟩ := i
    have h5 : b4 ≤ b5 + 4 * 40 := h5
    refine ⟨rgD 0 3, ev_itG (ds := [.int 3]) rfl (ran1_ok (j := 3) (by decide) (by decide)), forN_cost 3 5 (fun k ρ => ∃ x3 x4 x8 x9 x10 x13 x14, ρ = U x3 x4 x7 x8 x9 x10 x11 x12 x13 x14 ∧ Lot x3) (rgD 0 3) 0 _ b5 (by rw [rgD_len]; decide) ⟨_, _, _, _, _, _, _, rfl, h3⟩ (by rw [rgD_len]; omega) (fun x hx k ρ b hk i hb => ?_) (fun ρ b5 i h5 => ?_)⟩
    · obtain ⟨x3, x4, x8, x9, x10, x13, x14, rfl, h3⟩ := i
      obtain ⟨tn, _, rfl⟩ := List.mem_map.mp hx
      refine ⟨U x3 (some (.dat (.int (0 + tn)))) x7 x8 x9 x10 x11 x12 x13 x14, rfl, fun Q' q' => ?_⟩
      have i0 : L2.atI (AL.map tbD) 0 = some (tbD LS) := atI_nat (j := 0) rfl
      refine ⟨rfl, X.d, rfl, tbD LS, ev_e2 (a := .list (AL.map tbD)) (b := .int 0) rfl rfl i0, nl_tb _, _, rfl, _, rfl, rfl, ⟨X, LS, rfl, hX, ivL⟩, hb, fun d6 b6 hd6 h6 => ?_⟩
      obtain ⟨X', t', u, e, rfl, tgu⟩ := hd6
      injection e with e1 e
      cases Wd.inj e1
      let Y : Option LV → Option LV → Option LV → Option LV → List D → Rho := fun x3 x8 x9 x10 L => U x3 (some (.dat (.int (0 + tn)))) x7 x8 x9 x10 x11 x12 (some (.dat (tbD u))) (some (.own L))
      refine ⟨U x3 (some (.dat (.int (0 + tn)))) x7 x8 x9 x10 x11 x12 (some (.dat (tbD u))) x14, rfl, ?_⟩
      refine ⟨.list [], rfl, [], rfl, by show 14 < 15; decide, ?_⟩
      have tok := tgu.ok (by decide)
      have main : ∀ x8 x9 x10 (Qx : Out → Nat → Prop), (∀ x8 x9 x10 L, (L ≠ [] → ∃ z ∈ zs, hasC X u z.1 z.2.1 (z.2.2 - z.2.1) = false) → Qx (.nx (Y (some (.dat (.list (zs.map foD)))) x8 x9 x10 L)) b6) → (forN (Pat.tp (Pats.cons (Pat.nm 8) (Pats.cons (Pat.nm 9) (Pats.cons (Pat.nm 10) Pats.nil)))) lackBody (zs.map foD) (Y (some (.dat (.list (zs.map foD)))) x8 x9 x10 []) b6 Qx) := fun x8 x9 x10 Qx hq => by
        refine forN_zF (fun vs ρ => (∃ x8 x9 x10 L, ρ = Y (some (.dat (.list (zs.map foD)))) x8 x9 x10 L ∧ L.length + vs.length ≤ 40 ∧ (L ≠ [] → ∃ z ∈ zs, hasC X u z.1 z.2.1 (z.2.2 - z.2.1) = false)) ∧ ∀ z ∈ vs, z ∈ zs) (fun z vs ρ i => ?_) zs _ b6 ⟨⟨_, _, _, [], rfl, by rw [List.length_nil]; omega, fun h => absurd rfl h⟩, fun z h => h⟩ (fun ρ' i => ?_)
        · obtain ⟨⟨x8, x9, x10, L, rfl, hl, hL⟩, hv⟩ := i
          have hz := hv z (by simp)
          have fz := hF z hz
          have hl : L.length + (vs.length + 1) ≤ 40 := hl
          obtain ⟨zk, zo, zb⟩ := z
          have fa := fz.a
          have fa : zo ≤ zb := fa
          refine ⟨Y (some (.dat (.list (zs.map foD)))) (some (.dat (.str zk))) (some (.dat (.int zo))) (some (.dat (.int zb))) L, rfl, fun b Q'' q'' => ?_⟩
          have f1 : SLkd.f [X.d, tbD u, .tuple [.str zk, .int zo, .int (zb - zo)]] = some (.bool (!hasC X u zk zo (zb - zo))) := Sem.of (S := SLkd) (x := (X, u, some (zk, zo, zb - zo))) ⟨hX, tok, fun k o a e => by cases e; exact ⟨fz.k, by omega⟩⟩
          have et : eTup (aCons (eVar 8) (aCons (eVar 9) (aCons (e2 subD (eVar 10) (eVar 9)) aNil))) (shutR true (Y (some (.dat (.list (zs.map foD)))) (some (.dat (.str zk))) (some (.dat (.int zo))) (some (.dat (.int zb))) L)) = some (.tuple [.str zk, .int zo, .int (zb - zo)]) := ev_tupX rfl (by show 3 ≤ 1000; decide)
          have ec : oB (eCall (gN 3 SLkd.f) (aCons (eVar 2) (aCons (eVar 13) (aCons (eTup (aCons (eVar 8) (aCons (eVar 9) (aCons (e2 subD (eVar 10) (eVar 9)) aNil)))) aNil)))) (shutR true (Y (some (.dat (.list (zs.map foD)))) (some (.dat (.str zk))) (some (.dat (.int zo))) (some (.dat (.int zb))) L)) = some (!hasC X u zk zo (zb - zo)) := ev_oB (ev_call (ds := [X.d, tbD u, .tuple [.str zk, .int zo, .int (zb - zo)]]) (ev_cons rfl (ev_cons rfl (ev_cons et rfl))) rfl f1)
          cases hc : hasC X u zk zo (zb - zo) with
          | true =>
            rw [hc] at ec
            exact ⟨false, ec, q'' _ ⟨⟨_, _, _, L, rfl, by omega, hL⟩, fun z h => hv z (by simp [h])⟩⟩
          | false =>
            rw [hc] at ec
            refine ⟨true, ec, L, rfl, .str zk, rfl, _, rfl, .str zk, rfl, Nat.lt_of_lt_of_le (show L.length < 100 by omega) (by decide), q'' _ ⟨⟨_, _, _, L ++ [.str zk], rfl, by rw [List.length_append]; simp; omega, fun _ => ⟨_, hz, hc⟩⟩, fun z h => hv z (by simp [h])⟩⟩
        · obtain ⟨⟨x8, x9, x10, L, rfl, hl, hL⟩, _⟩ := i
          exact hq _ _ _ L hL
      have fin : ∀ x8 x9 x10 L, (L ≠ [] → ∃ z ∈ zs, hasC X u z.1 z.2.1 (z.2.2 - z.2.1) = false) → lackEnd.w (Y (some (.dat (.list (zs.map foD)))) x8 x9 x10 L) b6 Q' := fun x8 x9 x10 L hL => by
        have e0 : oB (e2 neZ (eVar 14) (eLst aNil)) (shutR false (Y (some (.dat (.list (zs.map foD)))) x8 x9 x10 L)) = some (!L.isEmpty) := ev_oB (ev_e2 (a := .list L) (b := .list []) rfl rfl rfl)
        refine ⟨false, ?_, q' _ b6 ⟨_, _, _, _, _, _, _, rfl, .inr rfl⟩ h6⟩
        cases L with
        | nil => exact ev_andF e0
        | cons l0 lr =>
          obtain ⟨z, hz, hc⟩ := hL (by simp)
          have ns : ¬ Shut X u := fun sh => by
            rw [(hF z hz).h u _ tgu sh] at hc
            cases hc
          have nl' : lekO X u ≠ none := fun h => ns ((lek_none tgu hX).mp h)
          obtain ⟨d7, hd7⟩ : ∃ d7, lekO X u = some d7 := by
            cases h : lekO X u with
            | none => exact absurd h nl'
            | some d7 => exact ⟨d7, rfl⟩
          have tup : ∃ ds, d7 = .tuple ds := by
            unfold lekO at hd7
            split at hd7
            · cases hd7; exact ⟨_, rfl⟩
            · obtain ⟨q, _, rfl⟩ := some_map hd7
              exact ⟨_, rfl⟩
          obtain ⟨ds7, rfl⟩ := tup
          have e1 : sShu [X.d, tbD u] = some (.bool false) := by
            rw [shu_t hX tgu (by decide), hd7]
            rfl
          have e2 : SLeak.f [X.d, tbD u] = some (.tuple ds7) := by
            refine (Sem.of (S := SLeak) (x := (X, u)) ⟨hX, tok⟩).trans ?_
            show some ((lekO X u).getD .none) = _
            rw [hd7]
            rfl
          exact ev_andT e0 (ev_orF (ev_oB (ev_call (ds := [X.d, tbD u]) rfl rfl e1)) (ev_oB (ev_e2 (a := .tuple ds7) (b := .none) (ev_call (ds := [X.d, tbD u]) rfl rfl e2) rfl rfl)))
      rcases h3 with rfl | rfl
      · exact .inl ⟨zs.map foD, rfl, zs.map foD, rfl, main _ _ _ _ fin⟩
      · exact .inr ⟨zs.map foD, rfl, main _ _ _ _ fin⟩
    · obtain ⟨x3, x4, x8, x9, x10, x13, x14, rfl, h3⟩ := i
      exact ⟨.bool true, rfl, rfl⟩
end
end Dl
namespace Dl
open PySem PySem.Spec PyProof.Rows L2 Rt
def PkOf (f1 : Addr) : Pks := fun a => if a = f1 then some sHi else none
theorem all_mk {l : PySem.W.OpenLaw} {w : World} {K : PySem.W.Frag} {h : Heap} {mg : Str → Option Value} {fa f0 f1 f2 f3 f4 f5 f6 f7 f8 f9 f10 f11 f12 f13 f14 f15 f16 f17 f18 f19 f20 f21 f22 f23 f24 f25 f26 f27 f28 f29 f30 f31 f32 f33 f34 f35 f36 f37 f38 f39 f40 f41 f42 : Addr} (X : K.In h) (G : h.Ns mainGlobals mg) (hfa : mg "law" = some (.ref fa))
    {od0 an0 od1 an1 od2 an2 od3 an3 od4 an4 od5 an5 od6 an6 od7 an7 od8 an8 od9 an9 od10 an10 od11 an11 od12 an12 od13 an13 od14 an14 od15 an15 od16 an16 od17 an17 od18 an18 od19 an19 od20 an20 od21 an21 od22 an22 od23 an23 od24 an24 od25 an25 od26 an26 od27 an27 od28 an28 od29 an29 od30 an30 od31 an31 od32 an32 od33 an33 od34 an34 od35 an35 od36 an36 od37 an37 od38 an38 od39 an39 od40 an40 od41 an41 od42 an42 : Option Addr} {sl0 sl1 sl2 sl3 sl4 sl5 sl6 sl7 sl8 sl9 sl10 sl11 sl12 sl13 sl14 sl15 sl16 sl17 sl18 sl19 sl20 sl21 sl22 sl23 sl24 sl25 sl26 sl27 sl28 sl29 sl30 sl31 sl32 sl33 sl34 sl35 sl36 sl37 sl38 sl39 sl40 sl41 sl42 : Array (Option Value)} {oc0 kV0 dc0 pm0 cd0 ct0 oc1 kV1 dc1 pm1 cd1 ct1 oc2 kV2 dc2 pm2 cd2 ct2 oc3 kV3 dc3 pm3 cd3 ct3 oc4 kV4 dc4 pm4 cd4 ct4 oc5 kV5 dc5 pm5 cd5 ct5 oc6 kV6 dc6 pm6 cd6 ct6 oc7 kV7 dc7 pm7 cd7 ct7 oc8 kV8 dc8 pm8 cd8 ct8 oc9 kV9 dc9 pm9 cd9 ct9 oc10 kV10 dc10 pm10 cd10 ct10 oc11 kV11 dc11 pm11 cd11 ct11 oc12 kV12 dc12 pm12 cd12 ct12 oc13 kV13 dc13 pm13 cd13 ct13 oc14 kV14 dc14 pm14 cd14 ct14 oc15 kV15 dc15 pm15 cd15 ct15 oc16 kV16 dc16 pm16 cd16 ct16 oc17 kV17 dc17 pm17 cd17 ct17 oc18 kV18 dc18 pm18 cd18 ct18 oc19 kV19 dc19 pm19 cd19 ct19 oc20 kV20 dc20 pm20 cd20 ct20 oc21 kV21 dc21 pm21 cd21 ct21 oc22 kV22 dc22 pm22 cd22 ct22 oc23 kV23 dc23 pm23 cd23 ct23 oc24 kV24 dc24 pm24 cd24 ct24 oc25 kV25 dc25 pm25 cd25 ct25 oc26 kV26 dc26 pm26 cd26 ct26 oc27 kV27 dc27 pm27 cd27 ct27 oc28 kV28 dc28 pm28 cd28 ct28 oc29 kV29 dc29 pm29 cd29 ct29 oc30 kV30 dc30 pm30 cd30 ct30 oc31 kV31 dc31 pm31 cd31 ct31 oc32 kV32 dc32 pm32 cd32 ct32 oc33 kV33 dc33 pm33 cd33 ct33 oc34 kV34 dc34 pm34 cd34 ct34 oc35 kV35 dc35 pm35 cd35 ct35 oc36 kV36 dc36 pm36 cd36 ct36 oc37 kV37 dc37 pm37 cd37 ct37 oc38 kV38 dc38 pm38 cd38 ct38 oc39 kV39 dc39 pm39 cd39 ct39 oc40 kV40 dc40 pm40 cd40 ct40 oc41 kV41 dc41 pm41 cd41 ct41 oc42 kV42 dc42 pm42 cd42 ct42 : Value}
    (a0 : PySem.W.nsIn K mainGlobals "is_above" = some (some (.ref f0))) (l0 : K.lookup f0 = some ⟨oc0, od0, .func (PySem.W.fnOf "is_above" "is_above" (defArgs s_is_above) (defBody s_is_above) (defScope s_is_above) .none kV0 dc0 pm0 an0 cd0 ct0), sl0⟩) (c0 : PySem.W.codeIn K cd0 "is_above" = true) (k0 : PySem.W.keepIn K (.ref f0) = true)
    (a1 : PySem.W.nsIn K mainGlobals "higher_cell" = some (some (.ref f1))) (l1 : K.lookup f1 = some ⟨oc1, od1, .func (PySem.W.fnOf "higher_cell" "higher_cell" (defArgs s_higher_cell) (defBody s_higher_cell) (defScope s_higher_cell) .none kV1 dc1 pm1 an1 cd1 ct1), sl1⟩) (c1 : PySem.W.codeIn K cd1 "higher_cell" = true) (k1 : PySem.W.keepIn K (.ref f1) = true)
    (a2 : PySem.W.nsIn K mainGlobals "is_number" = some (some (.ref f2))) (l2 : K.lookup f2 = some ⟨oc2, od2, .func (PySem.W.fnOf "is_number" "is_number" (defArgs s_is_number) (defBody s_is_number) (defScope s_is_number) .none kV2 dc2 pm2 an2 cd2 ct2), sl2⟩) (c2 : PySem.W.codeIn K cd2 "is_number" = true) (k2 : PySem.W.keepIn K (.ref f2) = true)
    (a3 : PySem.W.nsIn K mainGlobals "is_number_from" = some (some (.ref f3))) (l3 : K.lookup f3 = some ⟨oc3, od3, .func (PySem.W.fnOf "is_number_from" "is_number_from" (defArgs s_is_number_from) (defBody s_is_number_from) (defScope s_is_number_from) .none kV3 dc3 pm3 an3 cd3 ct3), sl3⟩) (c3 : PySem.W.codeIn K cd3 "is_number_from" = true) (k3 : PySem.W.keepIn K (.ref f3) = true)
    (a4 : PySem.W.nsIn K mainGlobals "is_row" = some (some (.ref f4))) (l4 : K.lookup f4 = some ⟨oc4, od4, .func (PySem.W.fnOf "is_row" "is_row" (defArgs s_is_row) (defBody s_is_row) (defScope s_is_row) .none kV4 dc4 pm4 an4 cd4 ct4), sl4⟩) (c4 : PySem.W.codeIn K cd4 "is_row" = true) (k4 : PySem.W.keepIn K (.ref f4) = true)
    (a5 : PySem.W.nsIn K mainGlobals "place_of" = some (some (.ref f5))) (l5 : K.lookup f5 = some ⟨oc5, od5, .func (PySem.W.fnOf "place_of" "place_of" (defArgs s_place_of) (defBody s_place_of) (defScope s_place_of) .none kV5 dc5 pm5 an5 cd5 ct5), sl5⟩) (c5 : PySem.W.codeIn K cd5 "place_of" = true) (k5 : PySem.W.keepIn K (.ref f5) = true)
    (a6 : PySem.W.nsIn K mainGlobals "first_of" = some (some (.ref f6))) (l6 : K.lookup f6 = some ⟨oc6, od6, .func (PySem.W.fnOf "first_of" "first_of" (defArgs s_first_of) (defBody s_first_of) (defScope s_first_of) .none kV6 dc6 pm6 an6 cd6 ct6), sl6⟩) (c6 : PySem.W.codeIn K cd6 "first_of" = true) (k6 : PySem.W.keepIn K (.ref f6) = true)
    (a7 : PySem.W.nsIn K mainGlobals "bears" = some (some (.ref f7))) (l7 : K.lookup f7 = some ⟨oc7, od7, .func (PySem.W.fnOf "bears" "bears" (defArgs s_bears) (defBody s_bears) (defScope s_bears) .none kV7 dc7 pm7 an7 cd7 ct7), sl7⟩) (c7 : PySem.W.codeIn K cd7 "bears" = true) (k7 : PySem.W.keepIn K (.ref f7) = true)
    (a8 : PySem.W.nsIn K mainGlobals "is_cell" = some (some (.ref f8))) (l8 : K.lookup f8 = some ⟨oc8, od8, .func (PySem.W.fnOf "is_cell" "is_cell" (defArgs s_is_cell) (defBody s_is_cell) (defScope s_is_cell) .none kV8 dc8 pm8 an8 cd8 ct8), sl8⟩) (c8 : PySem.W.codeIn K cd8 "is_cell" = true) (k8 : PySem.W.keepIn K (.ref f8) = true)
    (a9 : PySem.W.nsIn K mainGlobals "is_age_row" = some (some (.ref f9))) (l9 : K.lookup f9 = some ⟨oc9, od9, .func (PySem.W.fnOf "is_age_row" "is_age_row" (defArgs s_is_age_row) (defBody s_is_age_row) (defScope s_is_age_row) .none kV9 dc9 pm9 an9 cd9 ct9), sl9⟩) (c9 : PySem.W.codeIn K cd9 "is_age_row" = true) (k9 : PySem.W.keepIn K (.ref f9) = true)
    (a10 : PySem.W.nsIn K mainGlobals "is_table" = some (some (.ref f10))) (l10 : K.lookup f10 = some ⟨oc10, od10, .func (PySem.W.fnOf "is_table" "is_table" (defArgs s_is_table) (defBody s_is_table) (defScope s_is_table) .none kV10 dc10 pm10 an10 cd10 ct10), sl10⟩) (c10 : PySem.W.codeIn K cd10 "is_table" = true) (k10 : PySem.W.keepIn K (.ref f10) = true)
    (a11 : PySem.W.nsIn K mainGlobals "has" = some (some (.ref f11))) (l11 : K.lookup f11 = some ⟨oc11, od11, .func (PySem.W.fnOf "has" "has" (defArgs s_has) (defBody s_has) (defScope s_has) .none kV11 dc11 pm11 an11 cd11 ct11), sl11⟩) (c11 : PySem.W.codeIn K cd11 "has" = true) (k11 : PySem.W.keepIn K (.ref f11) = true)
    (a12 : PySem.W.nsIn K mainGlobals "first_there" = some (some (.ref f12))) (l12 : K.lookup f12 = some ⟨oc12, od12, .func (PySem.W.fnOf "first_there" "first_there" (defArgs s_first_there) (defBody s_first_there) (defScope s_first_there) .none kV12 dc12 pm12 an12 cd12 ct12), sl12⟩) (c12 : PySem.W.codeIn K cd12 "first_there" = true) (k12 : PySem.W.keepIn K (.ref f12) = true)
    (a13 : PySem.W.nsIn K mainGlobals "rows_by_cell" = some (some (.ref f13))) (l13 : K.lookup f13 = some ⟨oc13, od13, .func (PySem.W.fnOf "rows_by_cell" "rows_by_cell" (defArgs s_rows_by_cell) (defBody s_rows_by_cell) (defScope s_rows_by_cell) .none kV13 dc13 pm13 an13 cd13 ct13), sl13⟩) (c13 : PySem.W.codeIn K cd13 "rows_by_cell" = true) (k13 : PySem.W.keepIn K (.ref f13) = true)
    (a14 : PySem.W.nsIn K mainGlobals "cell_by_cell" = some (some (.ref f14))) (l14 : K.lookup f14 = some ⟨oc14, od14, .func (PySem.W.fnOf "cell_by_cell" "cell_by_cell" (defArgs s_cell_by_cell) (defBody s_cell_by_cell) (defScope s_cell_by_cell) .none kV14 dc14 pm14 an14 cd14 ct14), sl14⟩) (c14 : PySem.W.codeIn K cd14 "cell_by_cell" = true) (k14 : PySem.W.keepIn K (.ref f14) = true)
    (a15 : PySem.W.nsIn K mainGlobals "both" = some (some (.ref f15))) (l15 : K.lookup f15 = some ⟨oc15, od15, .func (PySem.W.fnOf "both" "both" (defArgs s_both) (defBody s_both) (defScope s_both) .none kV15 dc15 pm15 an15 cd15 ct15), sl15⟩) (c15 : PySem.W.codeIn K cd15 "both" = true) (k15 : PySem.W.keepIn K (.ref f15) = true)
    (a16 : PySem.W.nsIn K mainGlobals "is_brought_leak" = some (some (.ref f16))) (l16 : K.lookup f16 = some ⟨oc16, od16, .func (PySem.W.fnOf "is_brought_leak" "is_brought_leak" (defArgs s_is_brought_leak) (defBody s_is_brought_leak) (defScope s_is_brought_leak) .none kV16 dc16 pm16 an16 cd16 ct16), sl16⟩) (c16 : PySem.W.codeIn K cd16 "is_brought_leak" = true) (k16 : PySem.W.keepIn K (.ref f16) = true)
    (a17 : PySem.W.nsIn K mainGlobals "is_made_leak" = some (some (.ref f17))) (l17 : K.lookup f17 = some ⟨oc17, od17, .func (PySem.W.fnOf "is_made_leak" "is_made_leak" (defArgs s_is_made_leak) (defBody s_is_made_leak) (defScope s_is_made_leak) .none kV17 dc17 pm17 an17 cd17 ct17), sl17⟩) (c17 : PySem.W.codeIn K cd17 "is_made_leak" = true) (k17 : PySem.W.keepIn K (.ref f17) = true)
    (a18 : PySem.W.nsIn K mainGlobals "part_options" = some (some (.ref f18))) (l18 : K.lookup f18 = some ⟨oc18, od18, .func (PySem.W.fnOf "part_options" "part_options" (defArgs s_part_options) (defBody s_part_options) (defScope s_part_options) .none kV18 dc18 pm18 an18 cd18 ct18), sl18⟩) (c18 : PySem.W.codeIn K cd18 "part_options" = true) (k18 : PySem.W.keepIn K (.ref f18) = true)
    (a19 : PySem.W.nsIn K mainGlobals "ages_beside" = some (some (.ref f19))) (l19 : K.lookup f19 = some ⟨oc19, od19, .func (PySem.W.fnOf "ages_beside" "ages_beside" (defArgs s_ages_beside) (defBody s_ages_beside) (defScope s_ages_beside) .none kV19 dc19 pm19 an19 cd19 ct19), sl19⟩) (c19 : PySem.W.codeIn K cd19 "ages_beside" = true) (k19 : PySem.W.keepIn K (.ref f19) = true)
    (a20 : PySem.W.nsIn K mainGlobals "leaking_ages" = some (some (.ref f20))) (l20 : K.lookup f20 = some ⟨oc20, od20, .func (PySem.W.fnOf "leaking_ages" "leaking_ages" (defArgs s_leaking_ages) (defBody s_leaking_ages) (defScope s_leaking_ages) .none kV20 dc20 pm20 an20 cd20 ct20), sl20⟩) (c20 : PySem.W.codeIn K cd20 "leaking_ages" = true) (k20 : PySem.W.keepIn K (.ref f20) = true)
    (a21 : PySem.W.nsIn K mainGlobals "leak" = some (some (.ref f21))) (l21 : K.lookup f21 = some ⟨oc21, od21, .func (PySem.W.fnOf "leak" "leak" (defArgs s_leak) (defBody s_leak) (defScope s_leak) .none kV21 dc21 pm21 an21 cd21 ct21), sl21⟩) (c21 : PySem.W.codeIn K cd21 "leak" = true) (k21 : PySem.W.keepIn K (.ref f21) = true)
    (a22 : PySem.W.nsIn K mainGlobals "is_shut" = some (some (.ref f22))) (l22 : K.lookup f22 = some ⟨oc22, od22, .func (PySem.W.fnOf "is_shut" "is_shut" (defArgs s_is_shut) (defBody s_is_shut) (defScope s_is_shut) .none kV22 dc22 pm22 an22 cd22 ct22), sl22⟩) (c22 : PySem.W.codeIn K cd22 "is_shut" = true) (k22 : PySem.W.keepIn K (.ref f22) = true)
    (a23 : PySem.W.nsIn K mainGlobals "_law_pool" = some (some (.ref f23))) (l23 : K.lookup f23 = some ⟨oc23, od23, .func (PySem.W.fnOf "_law_pool" "_law_pool" (defArgs s_law_pool) (defBody s_law_pool) (defScope s_law_pool) .none kV23 dc23 pm23 an23 cd23 ct23), sl23⟩) (c23 : PySem.W.codeIn K cd23 "_law_pool" = true) (k23 : PySem.W.keepIn K (.ref f23) = true)
    (a24 : PySem.W.nsIn K mainGlobals "_law_draw" = some (some (.ref f24))) (l24 : K.lookup f24 = some ⟨oc24, od24, .func (PySem.W.fnOf "_law_draw" "_law_draw" (defArgs s_law_draw) (defBody s_law_draw) (defScope s_law_draw) .none kV24 dc24 pm24 an24 cd24 ct24), sl24⟩) (c24 : PySem.W.codeIn K cd24 "_law_draw" = true) (k24 : PySem.W.keepIn K (.ref f24) = true)
    (a25 : PySem.W.nsIn K mainGlobals "_law_any" = some (some (.ref f25))) (l25 : K.lookup f25 = some ⟨oc25, od25, .func (PySem.W.fnOf "_law_any" "_law_any" (defArgs s_law_any) (defBody s_law_any) (defScope s_law_any) .none kV25 dc25 pm25 an25 cd25 ct25), sl25⟩) (c25 : PySem.W.codeIn K cd25 "_law_any" = true) (k25 : PySem.W.keepIn K (.ref f25) = true)
    (a26 : PySem.W.nsIn K mainGlobals "_law_way" = some (some (.ref f26))) (l26 : K.lookup f26 = some ⟨oc26, od26, .func (PySem.W.fnOf "_law_way" "_law_way" (defArgs s_law_way) (defBody s_law_way) (defScope s_law_way) .none kV26 dc26 pm26 an26 cd26 ct26), sl26⟩) (c26 : PySem.W.codeIn K cd26 "_law_way" = true) (k26 : PySem.W.keepIn K (.ref f26) = true)
    (a27 : PySem.W.nsIn K mainGlobals "_law_world" = some (some (.ref f27))) (l27 : K.lookup f27 = some ⟨oc27, od27, .func (PySem.W.fnOf "_law_world" "_law_world" (defArgs s_law_world) (defBody s_law_world) (defScope s_law_world) .none kV27 dc27 pm27 an27 cd27 ct27), sl27⟩) (c27 : PySem.W.codeIn K cd27 "_law_world" = true) (k27 : PySem.W.keepIn K (.ref f27) = true)
    (a28 : PySem.W.nsIn K mainGlobals "_law_origin" = some (some (.ref f28))) (l28 : K.lookup f28 = some ⟨oc28, od28, .func (PySem.W.fnOf "_law_origin" "_law_origin" (defArgs s_law_origin) (defBody s_law_origin) (defScope s_law_origin) .none kV28 dc28 pm28 an28 cd28 ct28), sl28⟩) (c28 : PySem.W.codeIn K cd28 "_law_origin" = true) (k28 : PySem.W.keepIn K (.ref f28) = true)
    (a29 : PySem.W.nsIn K mainGlobals "_law_stair" = some (some (.ref f29))) (l29 : K.lookup f29 = some ⟨oc29, od29, .func (PySem.W.fnOf "_law_stair" "_law_stair" (defArgs s_law_stair) (defBody s_law_stair) (defScope s_law_stair) .none kV29 dc29 pm29 an29 cd29 ct29), sl29⟩) (c29 : PySem.W.codeIn K cd29 "_law_stair" = true) (k29 : PySem.W.keepIn K (.ref f29) = true)
    (a30 : PySem.W.nsIn K mainGlobals "_law_table" = some (some (.ref f30))) (l30 : K.lookup f30 = some ⟨oc30, od30, .func (PySem.W.fnOf "_law_table" "_law_table" (defArgs s_law_table) (defBody s_law_table) (defScope s_law_table) .none kV30 dc30 pm30 an30 cd30 ct30), sl30⟩) (c30 : PySem.W.codeIn K cd30 "_law_table" = true) (k30 : PySem.W.keepIn K (.ref f30) = true)
    (a31 : PySem.W.nsIn K mainGlobals "_law_empty" = some (some (.ref f31))) (l31 : K.lookup f31 = some ⟨oc31, od31, .func (PySem.W.fnOf "_law_empty" "_law_empty" (defArgs s_law_empty) (defBody s_law_empty) (defScope s_law_empty) .none kV31 dc31 pm31 an31 cd31 ct31), sl31⟩) (c31 : PySem.W.codeIn K cd31 "_law_empty" = true) (k31 : PySem.W.keepIn K (.ref f31) = true)
    (a32 : PySem.W.nsIn K mainGlobals "_law_stands" = some (some (.ref f32))) (l32 : K.lookup f32 = some ⟨oc32, od32, .func (PySem.W.fnOf "_law_stands" "_law_stands" (defArgs s_law_stands) (defBody s_law_stands) (defScope s_law_stands) .none kV32 dc32 pm32 an32 cd32 ct32), sl32⟩) (c32 : PySem.W.codeIn K cd32 "_law_stands" = true) (k32 : PySem.W.keepIn K (.ref f32) = true)
    (a33 : PySem.W.nsIn K mainGlobals "_law_has" = some (some (.ref f33))) (l33 : K.lookup f33 = some ⟨oc33, od33, .func (PySem.W.fnOf "_law_has" "_law_has" (defArgs s_law_has) (defBody s_law_has) (defScope s_law_has) .none kV33 dc33 pm33 an33 cd33 ct33), sl33⟩) (c33 : PySem.W.codeIn K cd33 "_law_has" = true) (k33 : PySem.W.keepIn K (.ref f33) = true)
    (a34 : PySem.W.nsIn K mainGlobals "_law_brought" = some (some (.ref f34))) (l34 : K.lookup f34 = some ⟨oc34, od34, .func (PySem.W.fnOf "_law_brought" "_law_brought" (defArgs s_law_brought) (defBody s_law_brought) (defScope s_law_brought) .none kV34 dc34 pm34 an34 cd34 ct34), sl34⟩) (c34 : PySem.W.codeIn K cd34 "_law_brought" = true) (k34 : PySem.W.keepIn K (.ref f34) = true)
    (a35 : PySem.W.nsIn K mainGlobals "_law_made" = some (some (.ref f35))) (l35 : K.lookup f35 = some ⟨oc35, od35, .func (PySem.W.fnOf "_law_made" "_law_made" (defArgs s_law_made) (defBody s_law_made) (defScope s_law_made) .none kV35 dc35 pm35 an35 cd35 ct35), sl35⟩) (c35 : PySem.W.codeIn K cd35 "_law_made" = true) (k35 : PySem.W.keepIn K (.ref f35) = true)
    (a36 : PySem.W.nsIn K mainGlobals "_law_choices" = some (some (.ref f36))) (l36 : K.lookup f36 = some ⟨oc36, od36, .func (PySem.W.fnOf "_law_choices" "_law_choices" (defArgs s_law_choices) (defBody s_law_choices) (defScope s_law_choices) .none kV36 dc36 pm36 an36 cd36 ct36), sl36⟩) (c36 : PySem.W.codeIn K cd36 "_law_choices" = true) (k36 : PySem.W.keepIn K (.ref f36) = true)
    (a37 : PySem.W.nsIn K mainGlobals "_law_lacked" = some (some (.ref f37))) (l37 : K.lookup f37 = some ⟨oc37, od37, .func (PySem.W.fnOf "_law_lacked" "_law_lacked" (defArgs s_law_lacked) (defBody s_law_lacked) (defScope s_law_lacked) .none kV37 dc37 pm37 an37 cd37 ct37), sl37⟩) (c37 : PySem.W.codeIn K cd37 "_law_lacked" = true) (k37 : PySem.W.keepIn K (.ref f37) = true)
    (a38 : PySem.W.nsIn K mainGlobals "_law_put" = some (some (.ref f38))) (l38 : K.lookup f38 = some ⟨oc38, od38, .func (PySem.W.fnOf "_law_put" "_law_put" (defArgs s_law_put) (defBody s_law_put) (defScope s_law_put) .none kV38 dc38 pm38 an38 cd38 ct38), sl38⟩) (c38 : PySem.W.codeIn K cd38 "_law_put" = true) (k38 : PySem.W.keepIn K (.ref f38) = true)
    (a39 : PySem.W.nsIn K mainGlobals "_law_closed" = some (some (.ref f39))) (l39 : K.lookup f39 = some ⟨oc39, od39, .func (PySem.W.fnOf "_law_closed" "_law_closed" (defArgs s_law_closed) (defBody s_law_closed) (defScope s_law_closed) .none kV39 dc39 pm39 an39 cd39 ct39), sl39⟩) (c39 : PySem.W.codeIn K cd39 "_law_closed" = true) (k39 : PySem.W.keepIn K (.ref f39) = true)
    (a40 : PySem.W.nsIn K mainGlobals "_law_loosened" = some (some (.ref f40))) (l40 : K.lookup f40 = some ⟨oc40, od40, .func (PySem.W.fnOf "_law_loosened" "_law_loosened" (defArgs s_law_loosened) (defBody s_law_loosened) (defScope s_law_loosened) .none kV40 dc40 pm40 an40 cd40 ct40), sl40⟩) (c40 : PySem.W.codeIn K cd40 "_law_loosened" = true) (k40 : PySem.W.keepIn K (.ref f40) = true)
    (a41 : PySem.W.nsIn K mainGlobals "_law_followed" = some (some (.ref f41))) (l41 : K.lookup f41 = some ⟨oc41, od41, .func (PySem.W.fnOf "_law_followed" "_law_followed" (defArgs s_law_followed) (defBody s_law_followed) (defScope s_law_followed) .none kV41 dc41 pm41 an41 cd41 ct41), sl41⟩) (c41 : PySem.W.codeIn K cd41 "_law_followed" = true) (k41 : PySem.W.keepIn K (.ref f41) = true)
    (a42 : PySem.W.nsIn K mainGlobals "law" = some (some (.ref f42))) (l42 : K.lookup f42 = some ⟨oc42, od42, .func (PySem.W.fnOf "law" "law" (defArgs s_law) (defBody s_law) (defScope s_law) .none kV42 dc42 pm42 an42 cd42 ct42), sl42⟩) (c42 : PySem.W.codeIn K cd42 "law" = true) (k42 : PySem.W.keepIn K (.ref f42) = true)
    (z_isinstance : PySem.W.nsIn K mainGlobals "isinstance" = some none)
    (z_int : PySem.W.nsIn K mainGlobals "int" = some none)
    (z_bool : PySem.W.nsIn K mainGlobals "bool" = some none)
    (z_tuple : PySem.W.nsIn K mainGlobals "tuple" = some none)
    (z_len : PySem.W.nsIn K mainGlobals "len" = some none)
    (z_min : PySem.W.nsIn K mainGlobals "min" = some none)
    (z_max : PySem.W.nsIn K mainGlobals "max" = some none)
    (z_all : PySem.W.nsIn K mainGlobals "all" = some none)
    (z_any : PySem.W.nsIn K mainGlobals "any" = some none)
    (z_zip : PySem.W.nsIn K mainGlobals "zip" = some none)
    (z_enumerate : PySem.W.nsIn K mainGlobals "enumerate" = some none)
    (z_range : PySem.W.nsIn K mainGlobals "range" = some none)
    (z_list : PySem.W.nsIn K mainGlobals "list" = some none)
    {t_READY : Tok} (y_READY : PySem.W.nsIn K mainGlobals "READY" = some (some (.int 26 t_READY)))
    {t_OLD : Tok} (y_OLD : PySem.W.nsIn K mainGlobals "OLD" = some (some (.int 20 t_OLD)))
    {t_LAST : Tok} (y_LAST : PySem.W.nsIn K mainGlobals "LAST" = some (some (.int 3000000000000000 t_LAST)))
    : ∃ fd : FuncData, (∀ (s : Shared) (v : Value), BindsTo s fd ⟨[v], []⟩ [("_law_script", v)]) ∧ ∀ base : Heap, K.In base → base.Ns mainGlobals mg → FnOk l.prog w K mg base CX0 7 fa fd ["_law_script"] (spLaw K) := by
  have e := hfa.symm.trans (PySem.W.mg_of X G a42)
  cases e
  have F0 := fun_mk (st := s_is_above) l0 c0 k0
  have b0 := F0.binds (ps := ["one", "other"]) fun _ _ _ _ _ _ us hl => match us, hl with | [_, _], _ => rfl
  have g0 := PySem.W.mg_of X G a0
  have F1 := fun_mk (st := s_higher_cell) l1 c1 k1
  have b1 := F1.binds (ps := ["one", "other"]) fun _ _ _ _ _ _ us hl => match us, hl with | [_, _], _ => rfl
  have g1 := PySem.W.mg_of X G a1
  have F2 := fun_mk (st := s_is_number) l2 c2 k2
  have b2 := F2.binds (ps := ["thing"]) fun _ _ _ _ _ _ us hl => match us, hl with | [_], _ => rfl
  have g2 := PySem.W.mg_of X G a2
  have F3 := fun_mk (st := s_is_number_from) l3 c3 k3
  have b3 := F3.binds (ps := ["thing", "low", "high"]) fun _ _ _ _ _ _ us hl => match us, hl with | [_, _, _], _ => rfl
  have g3 := PySem.W.mg_of X G a3
  have F4 := fun_mk (st := s_is_row) l4 c4 k4
  have b4 := F4.binds (ps := ["thing", "fewest", "most"]) fun _ _ _ _ _ _ us hl => match us, hl with | [_, _, _], _ => rfl
  have g4 := PySem.W.mg_of X G a4
  have F5 := fun_mk (st := s_place_of) l5 c5 k5
  have b5 := F5.binds (ps := ["world", "number"]) fun _ _ _ _ _ _ us hl => match us, hl with | [_, _], _ => rfl
  have g5 := PySem.W.mg_of X G a5
  have F6 := fun_mk (st := s_first_of) l6 c6 k6
  have b6 := F6.binds (ps := ["world", "source"]) fun _ _ _ _ _ _ us hl => match us, hl with | [_, _], _ => rfl
  have g6 := PySem.W.mg_of X G a6
  have F7 := fun_mk (st := s_bears) l7 c7 k7
  have b7 := F7.binds (ps := ["world", "way", "moment", "origins"]) fun _ _ _ _ _ _ us hl => match us, hl with | [_, _, _, _], _ => rfl
  have g7 := PySem.W.mg_of X G a7
  have F8 := fun_mk (st := s_is_cell) l8 c8 k8
  have b8 := F8.binds (ps := ["world", "place", "cell"]) fun _ _ _ _ _ _ us hl => match us, hl with | [_, _, _], _ => rfl
  have g8 := PySem.W.mg_of X G a8
  have F9 := fun_mk (st := s_is_age_row) l9 c9 k9
  have b9 := F9.binds (ps := ["world", "place", "row"]) fun _ _ _ _ _ _ us hl => match us, hl with | [_, _, _], _ => rfl
  have g9 := PySem.W.mg_of X G a9
  have F10 := fun_mk (st := s_is_table) l10 c10 k10
  have b10 := F10.binds (ps := ["world", "thing"]) fun _ _ _ _ _ _ us hl => match us, hl with | [_, _], _ => rfl
  have g10 := PySem.W.mg_of X G a10
  have F11 := fun_mk (st := s_has) l11 c11 k11
  have b11 := F11.binds (ps := ["world", "table", "kind", "origin", "age"]) fun _ _ _ _ _ _ us hl => match us, hl with | [_, _, _, _, _], _ => rfl
  have g11 := PySem.W.mg_of X G a11
  have F12 := fun_mk (st := s_first_there) l12 c12 k12
  have b12 := F12.binds (ps := ["world", "table", "kind", "place", "age"]) fun _ _ _ _ _ _ us hl => match us, hl with | [_, _, _, _, _], _ => rfl
  have g12 := PySem.W.mg_of X G a12
  have F13 := fun_mk (st := s_rows_by_cell) l13 c13 k13
  have b13 := F13.binds (ps := ["choose", "row", "beside"]) fun _ _ _ _ _ _ us hl => match us, hl with | [_, _, _], _ => rfl
  have g13 := PySem.W.mg_of X G a13
  have F14 := fun_mk (st := s_cell_by_cell) l14 c14 k14
  have b14 := F14.binds (ps := ["choose", "one", "other"]) fun _ _ _ _ _ _ us hl => match us, hl with | [_, _, _], _ => rfl
  have g14 := PySem.W.mg_of X G a14
  have F15 := fun_mk (st := s_both) l15 c15 k15
  have b15 := F15.binds (ps := ["world", "one", "other"]) fun _ _ _ _ _ _ us hl => match us, hl with | [_, _, _], _ => rfl
  have g15 := PySem.W.mg_of X G a15
  have F16 := fun_mk (st := s_is_brought_leak) l16 c16 k16
  have b16 := F16.binds (ps := ["world", "table", "source"]) fun _ _ _ _ _ _ us hl => match us, hl with | [_, _, _], _ => rfl
  have g16 := PySem.W.mg_of X G a16
  have F17 := fun_mk (st := s_is_made_leak) l17 c17 k17
  have b17 := F17.binds (ps := ["world", "table", "way", "place", "ages"]) fun _ _ _ _ _ _ us hl => match us, hl with | [_, _, _, _, _], _ => rfl
  have g17 := PySem.W.mg_of X G a17
  have F18 := fun_mk (st := s_part_options) l18 c18 k18
  have b18 := F18.binds (ps := ["world", "table", "part", "place"]) fun _ _ _ _ _ _ us hl => match us, hl with | [_, _, _, _], _ => rfl
  have g18 := PySem.W.mg_of X G a18
  have F19 := fun_mk (st := s_ages_beside) l19 c19 k19
  have b19 := F19.binds (ps := ["keeps", "options", "handing", "age"]) fun _ _ _ _ _ _ us hl => match us, hl with | [_, _, _, _], _ => rfl
  have g19 := PySem.W.mg_of X G a19
  have F20 := fun_mk (st := s_leaking_ages) l20 c20 k20
  have b20 := F20.binds (ps := ["world", "table", "way", "place"]) fun _ _ _ _ _ _ us hl => match us, hl with | [_, _, _, _], _ => rfl
  have g20 := PySem.W.mg_of X G a20
  have F21 := fun_mk (st := s_leak) l21 c21 k21
  have b21 := F21.binds (ps := ["world", "table"]) fun _ _ _ _ _ _ us hl => match us, hl with | [_, _], _ => rfl
  have g21 := PySem.W.mg_of X G a21
  have F22 := fun_mk (st := s_is_shut) l22 c22 k22
  have b22 := F22.binds (ps := ["world", "thing"]) fun _ _ _ _ _ _ us hl => match us, hl with | [_, _], _ => rfl
  have g22 := PySem.W.mg_of X G a22
  have F23 := fun_mk (st := s_law_pool) l23 c23 k23
  have b23 := F23.binds (ps := ["_law_script"]) fun _ _ _ _ _ _ us hl => match us, hl with | [_], _ => rfl
  have g23 := PySem.W.mg_of X G a23
  have F24 := fun_mk (st := s_law_draw) l24 c24 k24
  have b24 := F24.binds (ps := ["_law_pool_here", "_law_many"]) fun _ _ _ _ _ _ us hl => match us, hl with | [_, _], _ => rfl
  have g24 := PySem.W.mg_of X G a24
  have F25 := fun_mk (st := s_law_any) l25 c25 k25
  have b25 := F25.binds (ps := ["_law_pool_here", "_law_some"]) fun _ _ _ _ _ _ us hl => match us, hl with | [_, _], _ => rfl
  have g25 := PySem.W.mg_of X G a25
  have F26 := fun_mk (st := s_law_way) l26 c26 k26
  have b26 := F26.binds (ps := ["_law_pool_here", "_law_size", "_law_names", "_law_wide"]) fun _ _ _ _ _ _ us hl => match us, hl with | [_, _, _, _], _ => rfl
  have g26 := PySem.W.mg_of X G a26
  have F27 := fun_mk (st := s_law_world) l27 c27 k27
  have b27 := F27.binds (ps := ["_law_pool_here", "_law_wide"]) fun _ _ _ _ _ _ us hl => match us, hl with | [_, _], _ => rfl
  have g27 := PySem.W.mg_of X G a27
  have F28 := fun_mk (st := s_law_origin) l28 c28 k28
  have b28 := F28.binds (ps := ["_law_pool_here", "_law_size", "_law_place", "_law_peaks"]) fun _ _ _ _ _ _ us hl => match us, hl with | [_, _, _, _], _ => rfl
  have g28 := PySem.W.mg_of X G a28
  have F29 := fun_mk (st := s_law_stair) l29 c29 k29
  have b29 := F29.binds (ps := ["_law_pool_here", "_law_size", "_law_place", "_law_peaks"]) fun _ _ _ _ _ _ us hl => match us, hl with | [_, _, _, _], _ => rfl
  have g29 := PySem.W.mg_of X G a29
  have F30 := fun_mk (st := s_law_table) l30 c30 k30
  have b30 := F30.binds (ps := ["_law_pool_here", "_law_world_here", "_law_peaks"]) fun _ _ _ _ _ _ us hl => match us, hl with | [_, _, _], _ => rfl
  have g30 := PySem.W.mg_of X G a30
  have F31 := fun_mk (st := s_law_empty) l31 c31 k31
  have b31 := F31.binds (ps := ["_law_world_here"]) fun _ _ _ _ _ _ us hl => match us, hl with | [_], _ => rfl
  have g31 := PySem.W.mg_of X G a31
  have F32 := fun_mk (st := s_law_stands) l32 c32 k32
  have b32 := F32.binds (ps := ["_law_world_here", "_law_sheet", "_law_kind", "_law_place", "_law_age"]) fun _ _ _ _ _ _ us hl => match us, hl with | [_, _, _, _, _], _ => rfl
  have g32 := PySem.W.mg_of X G a32
  have F33 := fun_mk (st := s_law_has) l33 c33 k33
  have b33 := F33.binds (ps := ["_law_world_here", "_law_sheet", "_law_kind", "_law_origin_here", "_law_age"]) fun _ _ _ _ _ _ us hl => match us, hl with | [_, _, _, _, _], _ => rfl
  have g33 := PySem.W.mg_of X G a33
  have F34 := fun_mk (st := s_law_brought) l34 c34 k34
  have b34 := F34.binds (ps := ["_law_world_here", "_law_source"]) fun _ _ _ _ _ _ us hl => match us, hl with | [_, _], _ => rfl
  have g34 := PySem.W.mg_of X G a34
  have F35 := fun_mk (st := s_law_made) l35 c35 k35
  have b35 := F35.binds (ps := ["_law_world_here", "_law_sheet", "_law_way_here", "_law_place", "_law_ages"]) fun _ _ _ _ _ _ us hl => match us, hl with | [_, _, _, _, _], _ => rfl
  have g35 := PySem.W.mg_of X G a35
  have F36 := fun_mk (st := s_law_choices) l36 c36 k36
  have b36 := F36.binds (ps := ["_law_way_here"]) fun _ _ _ _ _ _ us hl => match us, hl with | [_], _ => rfl
  have g36 := PySem.W.mg_of X G a36
  have F37 := fun_mk (st := s_law_lacked) l37 c37 k37
  have b37 := F37.binds (ps := ["_law_world_here", "_law_sheet", "_law_thing"]) fun _ _ _ _ _ _ us hl => match us, hl with | [_, _, _], _ => rfl
  have g37 := PySem.W.mg_of X G a37
  have F38 := fun_mk (st := s_law_put) l38 c38 k38
  have b38 := F38.binds (ps := ["_law_world_here", "_law_sheet", "_law_thing"]) fun _ _ _ _ _ _ us hl => match us, hl with | [_, _, _], _ => rfl
  have g38 := PySem.W.mg_of X G a38
  have F39 := fun_mk (st := s_law_closed) l39 c39 k39
  have b39 := F39.binds (ps := ["_law_world_here", "_law_sheet"]) fun _ _ _ _ _ _ us hl => match us, hl with | [_, _], _ => rfl
  have g39 := PySem.W.mg_of X G a39
  have F40 := fun_mk (st := s_law_loosened) l40 c40 k40
  have b40 := F40.binds (ps := ["_law_pool_here", "_law_world_here", "_law_sheet"]) fun _ _ _ _ _ _ us hl => match us, hl with | [_, _, _], _ => rfl
  have g40 := PySem.W.mg_of X G a40
  have F41 := fun_mk (st := s_law_followed) l41 c41 k41
  have b41 := F41.binds (ps := ["_law_pool_here", "_law_world_here", "_law_lot"]) fun _ _ _ _ _ _ us hl => match us, hl with | [_, _, _], _ => rfl
  have g41 := PySem.W.mg_of X G a41
  have F42 := fun_mk (st := s_law) l42 c42 k42
  have b42 := F42.binds (ps := ["_law_script"]) fun _ _ _ _ _ _ us hl => match us, hl with | [_], _ => rfl
  have g42 := PySem.W.mg_of X G a42
  have m_isinstance := PySem.W.mg_none_of X G z_isinstance
  have m_int := PySem.W.mg_none_of X G z_int
  have m_bool := PySem.W.mg_none_of X G z_bool
  have m_tuple := PySem.W.mg_none_of X G z_tuple
  have m_len := PySem.W.mg_none_of X G z_len
  have m_min := PySem.W.mg_none_of X G z_min
  have m_max := PySem.W.mg_none_of X G z_max
  have m_all := PySem.W.mg_none_of X G z_all
  have m_any := PySem.W.mg_none_of X G z_any
  have m_zip := PySem.W.mg_none_of X G z_zip
  have m_enumerate := PySem.W.mg_none_of X G z_enumerate
  have m_range := PySem.W.mg_none_of X G z_range
  have m_list := PySem.W.mg_none_of X G z_list
  have g_READY := PySem.W.mg_of X G y_READY
  have g_OLD := PySem.W.mg_of X G y_OLD
  have g_LAST := PySem.W.mg_of X G y_LAST
  refine ⟨PySem.W.fnOf "law" "law" (defArgs s_law) (defBody s_law) (defScope s_law) .none kV42 dc42 pm42 an42 cd42 ct42, fun s v => .of_eq rfl, fun base _ _ => ?_⟩
  have C0 : Cl l.prog w K mg base 1 "is_above" ["one", "other"] (spD 2 sAbv) := ⟨f0, _, ok_above F0, g0, F0.kp, b0⟩
  have C1 : Cl l.prog w K mg base 2 "higher_cell" ["one", "other"] (spD 2 sHi) := ⟨f1, _, ok_higher F1 C0, g1, F1.kp, b1⟩
  have kk_higher_cell : PkOf f1 f1 = some sHi := if_pos rfl
  have hA : ∀ f sp, SPk (PkOf f1) f = some sp → Held l.prog w K mg base 2 f sp := fun f sp h => by
    by_cases e1 : f = f1
    · rw [e1] at h ⊢
      have h : (PkOf f1 f1).map (spD 2) = some sp := h
      rw [kk_higher_cell] at h
      cases h
      exact ⟨⟨_, _, ok_higher F1 C0, F1.kp, b1⟩⟩
    · have h : (PkOf f1 f).map (spD 2) = some sp := h
      have z : PkOf f1 f = none := if_neg e1
      rw [z] at h
      cases h
  have C2 : Cl l.prog w K mg base 1 "is_number" ["thing"] (spD 1 sNum) := ⟨f2, _, ok_num F2 m_isinstance m_int m_bool, g2, F2.kp, b2⟩
  have C3 : Cl l.prog w K mg base 2 "is_number_from" ["thing", "low", "high"] (spD 3 sFrom) := ⟨f3, _, ok_from F3 C2, g3, F3.kp, b3⟩
  have C4 : Cl l.prog w K mg base 1 "is_row" ["thing", "fewest", "most"] (spD 3 sRow) := ⟨f4, _, ok_row F4 m_isinstance m_tuple m_len, g4, F4.kp, b4⟩
  have C5 : Cl l.prog w K mg base 1 "place_of" ["world", "number"] (spD 2 sPlace) := ⟨f5, _, ok_place F5, g5, F5.kp, b5⟩
  have C6 : Cl l.prog w K mg base 2 "first_of" ["world", "source"] (spD 2 SFst.f) := ⟨f6, _, ok_first F6 C5, g6, F6.kp, b6⟩
  have C7 : Cl l.prog w K mg base 1 "bears" ["world", "way", "moment", "origins"] (spD 4 SBea.f) := ⟨f7, _, ok_bears F7 m_min m_max, g7, F7.kp, b7⟩
  have C8 : Cl l.prog w K mg base 3 "is_cell" ["world", "place", "cell"] (spD 3 sCell) := ⟨f8, _, ok_cell F8 g_OLD g_LAST C3 C5, g8, F8.kp, b8⟩
  have C9 : Cl l.prog w K mg base 4 "is_age_row" ["world", "place", "row"] (spD 3 sAge) := ⟨f9, _, ok_age F9 g_READY m_all m_any m_zip C4 C8 C0, g9, F9.kp, b9⟩
  have C10 : Cl l.prog w K mg base 5 "is_table" ["world", "thing"] (spD 2 sTab) := ⟨f10, _, ok_table F10 m_all m_len m_enumerate C4 C9, g10, F10.kp, b10⟩
  have C11 : Cl l.prog w K mg base 2 "has" ["world", "table", "kind", "origin", "age"] (spD 5 SHas.f) := ⟨f11, _, ok_has F11 m_min g_READY C5, g11, F11.kp, b11⟩
  have C12 : Cl l.prog w K mg base 2 "first_there" ["world", "table", "kind", "place", "age"] (spD 5 SThr.f) := ⟨f12, _, ok_there F12 m_min m_max g_READY C5, g12, F12.kp, b12⟩
  have C13 : Cl l.prog w K mg base 3 "rows_by_cell" ["choose", "row", "beside"] (spF 2 (PkOf f1) gRows) := ⟨f13, _, ok_rowsC F13 m_tuple m_zip hA, g13, F13.kp, b13⟩
  have C14 : Cl l.prog w K mg base 4 "cell_by_cell" ["choose", "one", "other"] (spF 2 (PkOf f1) gCbc) := ⟨f14, _, ok_cbc F14 m_tuple m_zip C13, g14, F14.kp, b14⟩
  have C15 : Cl l.prog w K mg base 5 "both" ["world", "one", "other"] (spD 3 (SBoth hiC).f) := ⟨f15, _, ok_both F15 g1 kk_higher_cell C14, g15, F15.kp, b15⟩
  have C16 : Cl l.prog w K mg base 3 "is_brought_leak" ["world", "table", "source"] (spD 3 SBrL.f) := ⟨f16, _, ok_brL F16 C11 C6, g16, F16.kp, b16⟩
  have C17 : Cl l.prog w K mg base 3 "is_made_leak" ["world", "table", "way", "place", "ages"] (spD 5 SMdL.f) := ⟨f17, _, ok_mdL F17 m_max m_zip C12 C7 C11, g17, F17.kp, b17⟩
  have C18 : Cl l.prog w K mg base 3 "part_options" ["world", "table", "part", "place"] (spD 4 SOpt.f) := ⟨f18, _, ok_opt F18 m_range C12, g18, F18.kp, b18⟩
  have C19 : Cl l.prog w K mg base 1 "ages_beside" ["keeps", "options", "handing", "age"] (spD 4 SBes.f) := ⟨f19, _, ok_bes F19 m_min m_enumerate m_tuple, g19, F19.kp, b19⟩
  have C20 : Cl l.prog w K mg base 4 "leaking_ages" ["world", "table", "way", "place"] (spD 4 SLka.f) := ⟨f20, _, ok_lka F20 m_enumerate C18 C19 C17, g20, F20.kp, b20⟩
  have C21 : Cl l.prog w K mg base 5 "leak" ["world", "table"] (spD 2 SLeak.f) := ⟨f21, _, ok_lek F21 m_range m_len m_enumerate C16 C20, g21, F21.kp, b21⟩
  have C22 : Cl l.prog w K mg base 6 "is_shut" ["world", "thing"] (spD 2 sShu) := ⟨f22, _, ok_shu F22 C10 C21, g22, F22.kp, b22⟩
  have C23 : Cl l.prog w K mg base 1 "_law_pool" ["_law_script"] (spDraws K) := ⟨f23, _, ok_pool (k := 0) F23, g23, F23.kp, b23⟩
  have C24 : Cl l.prog w K mg base 1 "_law_draw" ["_law_pool_here", "_law_many"] (spN 1 gNext) := ⟨f24, _, ok_drawN (ok_draw (k := 0) F24 m_len), g24, F24.kp, b24⟩
  have C25 : Cl l.prog w K mg base 2 "_law_any" ["_law_pool_here", "_law_some"] (spN 1 gOne) := ⟨f25, _, ok_anyN F25 m_len C24, g25, F25.kp, b25⟩
  have C26 : Cl l.prog w K mg base 3 "_law_way" ["_law_pool_here", "_law_size", "_law_names", "_law_wide"] (spN 3 gWay) := ⟨f26, _, ok_way F26 m_range m_tuple m_int m_min C24 C25, g26, F26.kp, b26⟩
  have C27 : Cl l.prog w K mg base 4 "_law_world" ["_law_pool_here", "_law_wide"] (spN 1 gWorld) := ⟨f27, _, ok_world F27 m_range m_tuple m_int C24 C25 C26, g27, F27.kp, b27⟩
  have C28 : Cl l.prog w K mg base 3 "_law_origin" ["_law_pool_here", "_law_size", "_law_place", "_law_peaks"] (spN 3 gOrigin) := ⟨f28, _, ok_origin F28 m_int C24 C25, g28, F28.kp, b28⟩
  have C29 : Cl l.prog w K mg base 4 "_law_stair" ["_law_pool_here", "_law_size", "_law_place", "_law_peaks"] (spN 3 gStair) := ⟨f29, _, ok_stair F29 m_range m_tuple C24 C28, g29, F29.kp, b29⟩
  have C30 : Cl l.prog w K mg base 5 "_law_table" ["_law_pool_here", "_law_world_here", "_law_peaks"] (spN 2 gTable) := ⟨f30, _, ok_tableN F30 m_range m_tuple C29, g30, F30.kp, b30⟩
  have C31 : Cl l.prog w K mg base 1 "_law_empty" ["_law_world_here"] (spD 1 SEmp.f) := ⟨f31, _, ok_emp F31 m_len, g31, F31.kp, b31⟩
  have C32 : Cl l.prog w K mg base 1 "_law_stands" ["_law_world_here", "_law_sheet", "_law_kind", "_law_place", "_law_age"] (spD 5 SStd.f) := ⟨f32, _, ok_std F32 m_min, g32, F32.kp, b32⟩
  have C33 : Cl l.prog w K mg base 2 "_law_has" ["_law_world_here", "_law_sheet", "_law_kind", "_law_origin_here", "_law_age"] (spD 5 SHas.f) := ⟨f33, _, ok_hasL F33 C32, g33, F33.kp, b33⟩
  have C34 : Cl l.prog w K mg base 1 "_law_brought" ["_law_world_here", "_law_source"] (spD 2 SBrt.f) := ⟨f34, _, ok_brt F34, g34, F34.kp, b34⟩
  have C35 : Cl l.prog w K mg base 2 "_law_made" ["_law_world_here", "_law_sheet", "_law_way_here", "_law_place", "_law_ages"] (spD 5 SMdT.f) := ⟨f35, _, ok_made F35 m_min m_max m_zip m_int C32, g35, F35.kp, b35⟩
  have C36 : Cl l.prog w K mg base 1 "_law_choices" ["_law_way_here"] (spD 1 SChs.f) := ⟨f36, _, ok_cho F36 m_range, g36, F36.kp, b36⟩
  have C37 : Cl l.prog w K mg base 3 "_law_lacked" ["_law_world_here", "_law_sheet", "_law_thing"] (spD 3 SLkd.f) := ⟨f37, _, ok_lkd F37 C33, g37, F37.kp, b37⟩
  have C38 : Cl l.prog w K mg base 1 "_law_put" ["_law_world_here", "_law_sheet", "_law_thing"] (spD 3 SPut.f) := ⟨f38, _, ok_put F38 m_list m_range m_tuple, g38, F38.kp, b38⟩
  have C39 : Cl l.prog w K mg base 4 "_law_closed" ["_law_world_here", "_law_sheet"] (spD 2 SClo.f) := ⟨f39, _, ok_clo F39 C38 C34 C36 C35 C37, g39, F39.kp, b39⟩
  have C40 : Cl l.prog w K mg base 2 "_law_loosened" ["_law_pool_here", "_law_world_here", "_law_sheet"] (spN 2 gLoo) := ⟨f40, _, ok_loo F40 m_len m_tuple C24, g40, F40.kp, b40⟩
  have C41 : Cl l.prog w K mg base 3 "_law_followed" ["_law_pool_here", "_law_world_here", "_law_lot"] (spN 2 gFol) := ⟨f41, _, ok_fol F41 m_int m_min m_max C24 C25, g41, F41.kp, b41⟩
  exact ok_law F42 m_range C23 C27 C41 C25 C39 C31 C30 C15 C11 C40 C37 C22 C21
end Dl
open PySem PySem.W PyProof.Rows
set_option maxHeartbeats 0 in
theorem PySem.Challenge.cw_rightage_k17_whole_what_is_followed_is_h_holds : PySem.Challenge.rw_rightage_k17_whole_what_is_followed_is_h.Holds := by
  w_on; o_law; k_head; (case hw => w_witness2)
  k_fill
  refine L2.walk_of (l := PySem.Challenge.rw_rightage_k17_whole_what_is_followed_is_h) (n := 63) (k := 7) (x := "_law_script") (CX := fun _ => L2.CX0) (sp := fun w => Dl.spLaw _) rfl (by decide) rfl ⟨rfl, by decide, by decide⟩ (fun w h Y => PySem.W.kIn_of Y) ?F (fun _ _ a ns hl _ hS => ⟨a, ns, rfl, hS, hl, fun _ => rfl⟩) (fun _ _ _ _ _ h => h)
  case F =>
    intro w mg fa h KX G hmg
    refine' Dl.all_mk KX G hmg ?a0 ?l0 ?c0 ?k0 ?a1 ?l1 ?c1 ?k1 ?a2 ?l2 ?c2 ?k2 ?a3 ?l3 ?c3 ?k3 ?a4 ?l4 ?c4 ?k4 ?a5 ?l5 ?c5 ?k5 ?a6 ?l6 ?c6 ?k6 ?a7 ?l7 ?c7 ?k7 ?a8 ?l8 ?c8 ?k8 ?a9 ?l9 ?c9 ?k9 ?a10 ?l10 ?c10 ?k10 ?a11 ?l11 ?c11 ?k11 ?a12 ?l12 ?c12 ?k12 ?a13 ?l13 ?c13 ?k13 ?a14 ?l14 ?c14 ?k14 ?a15 ?l15 ?c15 ?k15 ?a16 ?l16 ?c16 ?k16 ?a17 ?l17 ?c17 ?k17 ?a18 ?l18 ?c18 ?k18 ?a19 ?l19 ?c19 ?k19 ?a20 ?l20 ?c20 ?k20 ?a21 ?l21 ?c21 ?k21 ?a22 ?l22 ?c22 ?k22 ?a23 ?l23 ?c23 ?k23 ?a24 ?l24 ?c24 ?k24 ?a25 ?l25 ?c25 ?k25 ?a26 ?l26 ?c26 ?k26 ?a27 ?l27 ?c27 ?k27 ?a28 ?l28 ?c28 ?k28 ?a29 ?l29 ?c29 ?k29 ?a30 ?l30 ?c30 ?k30 ?a31 ?l31 ?c31 ?k31 ?a32 ?l32 ?c32 ?k32 ?a33 ?l33 ?c33 ?k33 ?a34 ?l34 ?c34 ?k34 ?a35 ?l35 ?c35 ?k35 ?a36 ?l36 ?c36 ?k36 ?a37 ?l37 ?c37 ?k37 ?a38 ?l38 ?c38 ?k38 ?a39 ?l39 ?c39 ?k39 ?a40 ?l40 ?c40 ?k40 ?a41 ?l41 ?c41 ?k41 ?a42 ?l42 ?c42 ?k42 ?z_isinstance ?z_int ?z_bool ?z_tuple ?z_len ?z_min ?z_max ?z_all ?z_any ?z_zip ?z_enumerate ?z_range ?z_list ?y_READY ?y_OLD ?y_LAST
    (case a0 => k_is)
    (case l0 => k_is)
    (case c0 => k_is)
    (case k0 => k_is)
    (case a1 => k_is)
    (case l1 => k_is)
    (case c1 => k_is)
    (case k1 => k_is)
    (case a2 => k_is)
    (case l2 => k_is)
    (case c2 => k_is)
    (case k2 => k_is)
    (case a3 => k_is)
    (case l3 => k_is)
    (case c3 => k_is)
    (case k3 => k_is)
    (case a4 => k_is)
    (case l4 => k_is)
    (case c4 => k_is)
    (case k4 => k_is)
    (case a5 => k_is)
    (case l5 => k_is)
    (case c5 => k_is)
    (case k5 => k_is)
    (case a6 => k_is)
    (case l6 => k_is)
    (case c6 => k_is)
    (case k6 => k_is)
    (case a7 => k_is)
    (case l7 => k_is)
    (case c7 => k_is)
    (case k7 => k_is)
    (case a8 => k_is)
    (case l8 => k_is)
    (case c8 => k_is)
    (case k8 => k_is)
    (case a9 => k_is)
    (case l9 => k_is)
    (case c9 => k_is)
    (case k9 => k_is)
    (case a10 => k_is)
    (case l10 => k_is)
    (case c10 => k_is)
    (case k10 => k_is)
    (case a11 => k_is)
    (case l11 => k_is)
    (case c11 => k_is)
    (case k11 => k_is)
    (case a12 => k_is)
    (case l12 => k_is)
    (case c12 => k_is)
    (case k12 => k_is)
    (case a13 => k_is)
    (case l13 => k_is)
    (case c13 => k_is)
    (case k13 => k_is)
    (case a14 => k_is)
    (case l14 => k_is)
    (case c14 => k_is)
    (case k14 => k_is)
    (case a15 => k_is)
    (case l15 => k_is)
    (case c15 => k_is)
    (case k15 => k_is)
    (case a16 => k_is)
    (case l16 => k_is)
    (case c16 => k_is)
    (case k16 => k_is)
    (case a17 => k_is)
    (case l17 => k_is)
    (case c17 => k_is)
    (case k17 => k_is)
    (case a18 => k_is)
    (case l18 => k_is)
    (case c18 => k_is)
    (case k18 => k_is)
    (case a19 => k_is)
    (case l19 => k_is)
    (case c19 => k_is)
    (case k19 => k_is)
    (case a20 => k_is)
    (case l20 => k_is)
    (case c20 => k_is)
    (case k20 => k_is)
    (case a21 => k_is)
    (case l21 => k_is)
    (case c21 => k_is)
    (case k21 => k_is)
    (case a22 => k_is)
    (case l22 => k_is)
    (case c22 => k_is)
    (case k22 => k_is)
    (case a23 => k_is)
    (case l23 => k_is)
    (case c23 => k_is)
    (case k23 => k_is)
    (case a24 => k_is)
    (case l24 => k_is)
    (case c24 => k_is)
    (case k24 => k_is)
    (case a25 => k_is)
    (case l25 => k_is)
    (case c25 => k_is)
    (case k25 => k_is)
    (case a26 => k_is)
    (case l26 => k_is)
    (case c26 => k_is)
    (case k26 => k_is)
    (case a27 => k_is)
    (case l27 => k_is)
    (case c27 => k_is)
    (case k27 => k_is)
    (case a28 => k_is)
    (case l28 => k_is)
    (case c28 => k_is)
    (case k28 => k_is)
    (case a29 => k_is)
    (case l29 => k_is)
    (case c29 => k_is)
    (case k29 => k_is)
    (case a30 => k_is)
    (case l30 => k_is)
    (case c30 => k_is)
    (case k30 => k_is)
    (case a31 => k_is)
    (case l31 => k_is)
    (case c31 => k_is)
    (case k31 => k_is)
    (case a32 => k_is)
    (case l32 => k_is)
    (case c32 => k_is)
    (case k32 => k_is)
    (case a33 => k_is)
    (case l33 => k_is)
    (case c33 => k_is)
    (case k33 => k_is)
    (case a34 => k_is)
    (case l34 => k_is)
    (case c34 => k_is)
    (case k34 => k_is)
    (case a35 => k_is)
    (case l35 => k_is)
    (case c35 => k_is)
    (case k35 => k_is)
    (case a36 => k_is)
    (case l36 => k_is)
    (case c36 => k_is)
    (case k36 => k_is)
    (case a37 => k_is)
    (case l37 => k_is)
    (case c37 => k_is)
    (case k37 => k_is)
    (case a38 => k_is)
    (case l38 => k_is)
    (case c38 => k_is)
    (case k38 => k_is)
    (case a39 => k_is)
    (case l39 => k_is)
    (case c39 => k_is)
    (case k39 => k_is)
    (case a40 => k_is)
    (case l40 => k_is)
    (case c40 => k_is)
    (case k40 => k_is)
    (case a41 => k_is)
    (case l41 => k_is)
    (case c41 => k_is)
    (case k41 => k_is)
    (case a42 => k_is)
    (case l42 => k_is)
    (case c42 => k_is)
    (case k42 => k_is)
    (case z_isinstance => k_is)
    (case z_int => k_is)
    (case z_bool => k_is)
    (case z_tuple => k_is)
    (case z_len => k_is)
    (case z_min => k_is)
    (case z_max => k_is)
    (case z_all => k_is)
    (case z_any => k_is)
    (case z_zip => k_is)
    (case z_enumerate => k_is)
    (case z_range => k_is)
    (case z_list => k_is)
    (case y_READY => k_is)
    (case y_OLD => k_is)
    (case y_LAST => k_is)

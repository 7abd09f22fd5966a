import PyProof.Rows.All
import Wide.All
import OpenK.AllK
import Wide.FinOn
import HandS.ForMost
import HandS.SetFor
import HandS.DictComp
import HandS.RevRange
import HandS.Iter
import HandS.Wide
import HandS.NoneIn
import HandS.IsInst
import HandS.Zip
import HandS.Walk
import HandS.Style
import HandS.CallLocal
import HandS.TupAny
import HandS.TupMul
import KE.GoesEnum
import HandS.Conv
import HandS.Strs
import HandS.Deep
import HandS.Flow
import PyProof.ReprRoads
import PyProof.ReprLen
import PyProof.FitsInt
import KE.DatumOrd
import HandS.SortKw
import HandS.TryOnly
import HandS.Text
import HandS.ExcIs
import HandS.ExcInit
import HandS.ExcField
import KE.KExcIs
import HandS.WordsExc
import PyProof.Rows.IntBool
import PyProof.StrLawsRepr
import PySem.Challenge.RW_rightage_k08_whole_papers_put_together
set_option Elab.async false
set_option linter.all false
set_option maxRecDepth 100000
set_option maxHeartbeats 4000000
namespace Rt
open PySem PySem.Spec PyProof.Rows L2

/-! ### a def of the text as its callers see it -/
structure Cl (P : Program) (w : World) (K : PySem.W.Frag) (mg : Str → Option Value) (base : Heap) (k : Nat) (x : Str) (ps : List Str) (sp : Sp) : Prop where
  ex : ∃ (f : Addr) (fd : FuncData), FnOk P w K mg base CX0 k f fd ps sp ∧ mg x = some (.ref f) ∧ PySem.W.keepIn K (.ref f) = true ∧ Binds K fd ps []
section
variable {X : Cx}
theorem pe_cl {k : Nat} {x : Str} {ps : List Str} {sp : Sp} {p pos : Pos} {e : Expr} {es : List Expr} {t : TA} (C : Cl X.prog X.w X.K X.mg X.base k x ps sp) (hr : Room k X.A) (hg : Gl X x) (ha : PA X (e :: es) t)
    (hdb : (x == ("__debug__" : Str)) = false := by decide) (he : starEach (e :: es) X.env = (false, eval e X.env) :: starEach es X.env := by rfl) (hpl : (backTo pos (starEach es X.env)).any (·.1) = false := by rfl) :
    PE X (.Call (.Name x p) (e :: es) [] pos) (tCall sp [] E0 t) := by
  obtain ⟨f, fd, F, hm, hk, hb⟩ := C.ex
  exact pe_call F hr hg hm hk hb .nil pass0 ha hdb he hpl
end


/-! ### rules that hand on letters -/
section
variable {X : Cx}
theorem OpR.weak {f : Value → Value → Sem Value} {r r' : R2} (o : OpR X f r) (m : ∀ x y H Q, r' x y H Q → r x y H Q) : OpR X f r' := fun pn s σ H x y v u Q I a b q => o pn s σ H x y v u Q I a b (m _ _ _ _ q)
def rModL : R2 := fun x y H Q => ∃ i j : Int, x = .int i ∧ y = .int j ∧ 0 < j ∧ ∀ z : Int, z = i % j → 0 ≤ z → z < j → Q (.int z) H
theorem op_modL : OpR X (binaryOp .Mod) rModL := OpR.weak op_mod fun x y H Q h => by
  obtain ⟨i, j, rfl, rfl, hj, q⟩ := h
  exact ⟨i, j, rfl, rfl, hj, q _ rfl (Int.emod_nonneg _ (by omega)) (Int.emod_lt_of_pos _ hj)⟩
def rPowL : R2 := fun x y H Q => ∃ i j : Int, x = .int i ∧ y = .int j ∧ 0 ≤ j ∧ j ≤ 1000000 ∧ i.natAbs < 2 ^ 64 ∧ ∀ z : Int, z = i ^ j.toNat → Q (.int z) H
theorem op_powL : OpR X (binaryOp .Pow) rPowL := OpR.weak op_pow fun x y H Q h => by
  obtain ⟨i, j, rfl, rfl, h0, h1, h2, q⟩ := h
  exact ⟨i, j, rfl, rfl, ⟨h0, h1, h2⟩, q _ rfl⟩
def rMulL : R2 := fun x y H Q => ∃ i j : Int, x = .int i ∧ y = .int j ∧ CMul i j ∧ ∀ z : Int, z = i * j → Q (.int z) H
theorem op_mulL : OpR X (binaryOp .Mult) rMulL := OpR.weak op_mul fun x y H Q h => by
  obtain ⟨i, j, rfl, rfl, h2, q⟩ := h
  exact ⟨i, j, rfl, rfl, h2, q _ rfl⟩
def rAddL : R2 := fun x y H Q => ∃ i j : Int, x = .int i ∧ y = .int j ∧ ∀ z : Int, z = i + j → Q (.int z) H
theorem op_addL : OpR X (binaryOp .Add) rAddL := OpR.weak op_add fun x y H Q h => by
  obtain ⟨i, j, rfl, rfl, q⟩ := h
  exact ⟨i, j, rfl, rfl, q _ rfl⟩
def rSubL : R2 := fun x y H Q => ∃ i j : Int, x = .int i ∧ y = .int j ∧ ∀ z : Int, z = i - j → Q (.int z) H
theorem op_subL : OpR X (binaryOp .Sub) rSubL := OpR.weak op_sub fun x y H Q h => by
  obtain ⟨i, j, rfl, rfl, q⟩ := h
  exact ⟨i, j, rfl, rfl, q _ rfl⟩
def rDivL : R2 := fun x y H Q => ∃ i j : Int, x = .int i ∧ y = .int j ∧ CDivW i j ∧ ∀ z : Int, z = i / j → Q (.int z) H
theorem op_divL : OpR X (binaryOp .FloorDiv) rDivL := OpR.weak op_fdivW fun x y H Q h => by
  obtain ⟨i, j, rfl, rfl, h2, q⟩ := h
  exact ⟨i, j, rfl, rfl, h2, q _ rfl⟩
def rSetLL : V → V → V → Hp → (Hp → Prop) → Prop := fun o i v H Q => ∃ p xs k j, o = .ref p ∧ i = .int k ∧ H p = some (.lst xs) ∧ ixN xs.length k = some j ∧ ∀ H', H' = upd H p (.lst (xs.set j v)) → Q H'
theorem set_listL : PSet X rSetLL := fun pn s σ H o i v ov iv u Q I a b c h => set_list pn s σ H o i v ov iv u Q I a b c (by
  obtain ⟨p, xs, k, j, e1, e2, e3, e4, q⟩ := h
  exact ⟨p, xs, k, j, e1, e2, e3, e4, q _ rfl⟩)
def tTupL (t : TA) : TE := fun σ H Q => t σ H fun xs H1 => xs.length ≤ sizeLine ∧ ∀ p H2, H1 p = none → H2 = upd H1 p (.tup xs) → Q (.ref p) H2
def tLstL (t : TA) : TE := fun σ H Q => t σ H fun xs H1 => xs.length ≤ sizeLine ∧ ∀ p H2, H1 p = none → H2 = upd H1 p (.lst xs) → Q (.ref p) H2
/-- consequence -/
theorem PA.weak {es : List Expr} {t t' : TA} (h : PA X es t) (m : ∀ σ H Q, t' σ H Q → ∃ Q', t σ H Q' ∧ ∀ v H', Q' v H' → Q v H') : PA X es t' := ⟨fun po pn s σ H Q I q => by
  obtain ⟨Q', a, b⟩ := m _ _ _ q
  exact wpAny_mono (h.run po pn s σ H Q' I a) (fun us s1 ⟨vs, H1, I1, r1, q1⟩ => ⟨vs, H1, I1, r1, b _ _ q1⟩) fun _ _ z => z⟩
theorem pe_tupL {es : List Expr} {t : TA} {x1} {pos : Pos} (h : PA X es t) : PE X (.Tuple es x1 pos) (tTupL t) :=
  ⟨fun pn s σ H Q I q => (pe_tup (x1 := x1) (pos := pos) (PA.weak (t' := fun σ H Q => ∃ Q', t σ H Q' ∧ ∀ v H', Q' v H' → Q v H') h fun _ _ _ z => z)).run pn s σ H Q I ⟨_, q, fun xs H1 z => ⟨z.1, fun p hp => z.2 p _ hp rfl⟩⟩⟩
theorem pe_lstL {es : List Expr} {t : TA} {pos : Pos} (h : PA X es t) : PE X (.List es pos) (tLstL t) :=
  ⟨fun pn s σ H Q I q => (pe_lst (pos := pos) (PA.weak (t' := fun σ H Q => ∃ Q', t σ H Q' ∧ ∀ v H', Q' v H' → Q v H') h fun _ _ _ z => z)).run pn s σ H Q I ⟨_, q, fun xs H1 z => ⟨z.1, fun p hp => z.2 p _ hp rfl⟩⟩⟩
end

theorem sz {n : Nat} (h : n ≤ 100000) : n ≤ sizeLine := Nat.le_trans h (by decide)
theorem szl {n : Nat} (h : n < 100000) : n < sizeLine := Nat.lt_of_lt_of_le h (by decide)
theorem atI_in {α : Type} {xs : List α} {i : Int} (h0 : 0 ≤ i) (h : i < xs.length) : ∃ v, atI xs i = some v ∧ v ∈ xs ∧ xs[i.toNat]? = some v := by
  have h2 : i.toNat < xs.length := by omega
  have e : xs[i.toNat]? = some xs[i.toNat] := List.getElem?_eq_getElem h2
  refine ⟨xs[i.toNat], ?_, List.getElem_mem h2, e⟩
  have := atI_nat e
  rwa [Int.toNat_of_nonneg h0] at this
theorem ixN_in {n : Nat} {i : Int} (h0 : 0 ≤ i) (h : i < n) : ixN n i = some i.toNat := by
  unfold ixN
  rw [if_pos h0, if_pos h]

/-! ### rules whose written part is named (for comprehensions) -/
section
variable {X : Cx} {K : PySem.W.Frag}
theorem call_tupK (e : X.K = K := by rfl) : CallR X (.type "tuple") (fun xs H Q => ∃ p ys, xs = [.ref p] ∧ ((SqL K H p ys ∧ ∀ l, H l = none → Q (.ref l) (upd H l (.tup ys))) ∨ (SqT K H p ys ∧ Q (.ref p) H))) := by
  subst e
  exact call_tuple_of
theorem call_lenK (e : X.K = K := by rfl) : CallR X (.builtin "len") (fun xs H Q => ∃ x n, xs = [x] ∧ LenV K x H n ∧ Q (.int n) H) := by
  subst e
  exact call_len
theorem ix_tupK (e : X.K = K := by rfl) : IxR X (rIxT K) := by
  subst e
  exact ix_tup
theorem ix_listK (e : X.K = K := by rfl) : IxR X (rIxL K) := by
  subst e
  exact ix_list
end
end Rt
namespace Rt
open PySem PySem.Spec PyProof.Rows L2
/-! ### defs that are called where nothing is being shown (no guard stands around) -/
structure FnG (P : Program) (w : World) (K : PySem.W.Frag) (mg : Str → Option Value) (base : Heap) (k : Nat) (f : Addr) (fd : FuncData) (ps : List Str) (sp : Sp) : Prop where
  many : ∀ vs H Q E, sp vs H Q E → vs.length = ps.length
  goes : ∀ (A : Around) (outer : List Env) (s : Shared) (H : Hp) (args : Args) (us : List Value) (vs : List V) (Q : VK) (E : XK), Room k A → A.guards = some [] → Env0 P w K mg base A outer s H → BindsTo s fd args (ps.zip us) → Vals vs us → sp vs H Q E →
    codeAny (model P w) A (.call (.ref f) args) (CR CX0 outer P w H s Q E) s
section
variable {P : Program} {w : World} {K : PySem.W.Frag} {mg : Str → Option Value} {base : Heap}
theorem okG {x qual : Str} {st : Stmt} {f : Addr} {fd : FuncData} {N ps : List Str} {k : Nat} {sp : Sp} (F : Fun K x qual st f fd) (S : FnScope N ps (defScope st)) (many : ∀ vs H Q E, sp vs H Q E → vs.length = ps.length)
    (walk : ∀ (cdv : Value) (A : Around) (outer : List Env) (s : Shared) (H : Hp) (vs : List V) (Q : VK) (E : XK), Room k (A.deeper (envOfC qual (defScope st) s.heap.objs.size f cdv)) → (A.deeper (envOfC qual (defScope st) s.heap.objs.size f cdv)).guards = some [] → sp vs H Q E →
      ∃ t, PSs (cxOf CX0 P w K mg base N qual (defScope st) f cdv A outer s H E).nox (defBody st) t ∧ t { nx := fun _ H' => Q .non H', rt := Q } (start N vs) H) : FnG P w K mg base (k + 1) f fd ps sp := by
  obtain ⟨oc, od, kV, doc, pm, an, cdv, ct, osl, rfl, lk, hcd⟩ := F.ex
  refine ⟨many, fun A outer s H args us vs Q E room free e0 binds vals hsp => ?_⟩
  have cnt := many vs H Q E hsp
  have stands : ∀ b o, base.get? b = some o → s.heap.get? b = some o := fun b o e => (e0.bs b o e).1
  have inK : K.In s.heap := e0.mod.kin.keeps stands
  have kinds : ∀ y ∈ ps.zip us, (defScope st).names.lookup y.1 = some .local ∨ ((defScope st).names.lookup y.1 = some .cell ∧ ((cellsFrom (s.heap.objs.size + 1) (defScope st).names []).lookup y.1).isSome = true) := by
    rintro ⟨nm, vl⟩ hm
    exact (S.par nm (List.of_mem_zip hm).1).imp id fun c => ⟨c, PySem.W.cellsFrom_some _ _ _ (.inl c)⟩
  refine codeAny_call_function room.depth (inK _ _ lk) rfl S.co S.gen rfl (PySem.W.codeRec_of inK hcd) (binds _ _ _ _ (wpAny_newFunctionEnv_cells S.kind kinds fun env he s1 fresh => ?_))
  subst he
  refine ⟨(e0.mod.nolimit.keeps stands).keeps fresh.toInCall.keep, codeAny_func ?_⟩
  obtain ⟨t, ht, hq⟩ := walk cdv A outer s H vs Q E (room.deeper _) free hsp
  have J0 : Inv (cxOf CX0 P w K mg base N qual (defScope st) f cdv A outer s H E) [] (start N vs) H s1 := inv_start S room.hd e0 cnt vals fresh
  refine wpAny_mono (ht.nox.run [] s1 (start N vs) H _ J0 hq) (fun fl s2 done => ?_) fun _ _ z => z
  cases fl with
  | ret u => obtain ⟨v, σ2, H2, J, rv, qv⟩ := done; exact ⟨v, H2, J.os, J.bare, J.base, J.hok, rv, qv⟩
  | next => obtain ⟨σ2, H2, J, qv⟩ := done; exact ⟨V.non, H2, J.os, J.bare, J.base, J.hok, rfl, qv⟩
  | brk => obtain ⟨_, _, _, qv⟩ := done; exact qv.elim
  | cont => obtain ⟨_, _, _, qv⟩ := done; exact qv.elim
theorem FnG.of {k : Nat} {f : Addr} {fd : FuncData} {ps : List Str} {sp : Sp} (F : FnOk P w K mg base CX0 k f fd ps sp) : FnG P w K mg base k f fd ps sp :=
  ⟨F.len, fun A outer s H args us vs Q E room _ => F.run A outer s H args us vs Q E room⟩
end
structure ClG (P : Program) (w : World) (K : PySem.W.Frag) (mg : Str → Option Value) (base : Heap) (k : Nat) (x : Str) (ps : List Str) (sp : Sp) : Prop where
  ex : ∃ (f : Addr) (fd : FuncData), FnG P w K mg base k f fd ps sp ∧ mg x = some (.ref f) ∧ PySem.W.keepIn K (.ref f) = true ∧ Binds K fd ps []
section
variable {X : Cx}
theorem run_G {k : Nat} {f : Addr} {fd : FuncData} {ps : List Str} {sp : Sp} {pn : List (Addr × Obj)} {σ : L2.St} {H : Hp} {s : Shared} {Q : VK} {us : List Value} {vs : List V} (F : FnG X.prog X.w X.K X.mg X.base k f fd ps sp) (room : Room k X.A) (free : X.A.guards = some []) (bd : Binds X.K fd ps [])
    (I : Inv X pn σ H s) (r : Vals vs us) (h : sp (vs ++ []) H Q E0) : wpAny (model X.prog X.w) X.A (call (.ref f) us) (EP X pn σ Q) X.xe s := by
  have r2 : Vals (vs ++ []) (us ++ []) := r.append .nil
  refine wpAny_call (codeAny_mono (F.goes X.A X.stack s H ⟨us, []⟩ (us ++ []) (vs ++ []) Q E0 room free I.env0 (bd s us I.kIn (by rw [← r2.length]; exact F.many _ _ _ _ h)) r2 h) fun res s2 hq => ?_)
  cases res with
  | error e => exact (hq : False).elim
  | ok fl => cases fl with
    | ret u => exact I.after hq
    | next => exact (hq : False).elim
    | brk => exact (hq : False).elim
    | cont => exact (hq : False).elim
theorem pe_clG {k : Nat} {x : Str} {ps : List Str} {sp : Sp} {p pos : Pos} {e : Expr} {es : List Expr} {t : TA} (C : ClG X.prog X.w X.K X.mg X.base k x ps sp) (room : Room k X.A) (free : X.A.guards = some []) (hg : Gl X x) (ha : PA X (e :: es) t)
    (hdb : (x == ("__debug__" : Str)) = false := by decide) (he : starEach (e :: es) X.env = (false, eval e X.env) :: starEach es X.env := by rfl) (hpl : (backTo pos (starEach es X.env)).any (·.1) = false := by rfl) :
    PE X (.Call (.Name x p) (e :: es) [] pos) (tCall sp [] E0 t) := by
  obtain ⟨f, fd, F, hm, hk, hb⟩ := C.ex
  refine ⟨fun pn s σ H Q I h => wpAny_Call_Name_kw (ld_glob I hg hm ?_ hdb)⟩
  exact PySem.W.callWith_K (h₀ := X.base) I.ok.mod.kin hk (thn (ha.run pos pn s σ H _ I h) fun us s1 ⟨vs, H1, I1, r, q⟩ => ⟨I1.kIn, run_G F room free hb I1 r q⟩) he hpl
/-! ### repr of data -/
def rRepr (K : PySem.W.Frag) : List V → Hp → VK → Prop := fun xs H Q => ∃ (a : Addr) (d : PyData), xs = [.ref a] ∧ Dp K H (.ref a) d ∧ d.showable = true ∧ d.hasDict = false ∧ d.depth ≤ 60 ∧ d.shown.length ≤ sizeLine ∧ ∀ z : Str, z = d.shown → Q (.str z) H
theorem call_repr (free : X.A.guards = some []) (hu : X.A.units + 64 < cLine) : CallR X (.builtin "repr") (rRepr X.K) := by
  intro pn s σ H xs us Q I r h
  obtain ⟨a, d, rfl, hd, h1, h2, h3, h4, q⟩ := h
  obtain ⟨u, rfl, r1⟩ := vals1 r
  obtain ⟨as, rd⟩ := Dp.reads I d _ u hd r1
  cases r1
  exact repr_of_reads' rd h1 (fun z => by rw [h2] at z; cases z) free (by omega) (fun _ _ e => e) (fun h' u tk hk => ⟨.str _, H, I.kept hk, ⟨_, rfl⟩, q _ rfl⟩) h4
def rReprB : List V → Hp → VK → Prop := fun xs H Q => ∃ b : Bool, xs = [.bl b] ∧ ∀ z : Str, z = (if b then Str.ofString "True" else Str.ofString "False") → Q (.str z) H
theorem call_reprB : CallR X (.builtin "repr") rReprB := by
  intro pn s σ H xs us Q I r h
  obtain ⟨b, rfl, q⟩ := h
  obtain ⟨u, rfl, r1⟩ := vals1 r
  cases r1
  exact PySem.P.repr_of_bool ⟨.str _, H, I.tok _, ⟨_, rfl⟩, q _ rfl⟩
end
/-! ### the law itself, called where no guard stands -/
theorem lawG {P : Program} {w : World} {K : PySem.W.Frag} {mg mb : Str → Option Value} {k : Nat} {fa a : Addr} {fd : FuncData} {x : Str} {sp : Sp} {s0 : Shared} {us : List Value} {ns : List Int}
    (inK : K.In s0.heap) (gl : s0.heap.Ns mainGlobals mg) (bl : s0.heap.Ns builtinsNs mb) (bb : ∀ x : Str, x ≠ "__name__" → mb x = bootBuiltins x) (nl : s0.heap.NoLimit) (ng : s0.gens = #[])
    (sc : s0.heap.get? a = some { cls := .type "list", data := .seq us.toArray }) (hin : IntsAre us ns) (short : ns.length ≤ sizeLine) (room : Room k callerA)
    (F : ∀ base : Heap, K.In base → base.Ns mainGlobals mg → FnG P w K mg base k fa fd [x] sp) (bd : ∀ (s : Shared) (u : Value), BindsTo s fd ⟨[u], []⟩ [(x, u)])
    (hsp : ∀ H : Hp, Only H → SqL K H a (ns.map V.int) → sp [.ref a] H (fun v _ => v = .bl true) E0) :
    codeAny (model P w) callerA (.call (.ref fa) ⟨[.ref a], []⟩) (fun r s2 => r = .ok (.ret (.bool true)) ∧ OldK s0.heap s2.heap ∧ s2.os = s0.os ∧ AllBare s2.gens) s0 := by
  have rel := vals_ints hin
  have main : ∀ H : Hp, Only H → SqL K H a (ns.map V.int) → HOk P w H s0.heap → (∀ b u, H b = some u → b = a ∧ K.lookup a = none) →
      codeAny (model P w) callerA (.call (.ref fa) ⟨[.ref a], []⟩) (fun r s2 => r = .ok (.ret (.bool true)) ∧ OldK s0.heap s2.heap ∧ s2.os = s0.os ∧ AllBare s2.gens) s0 := by
    intro H only seq hok just
    have free : ∀ {b : Addr}, (b = a → K.lookup a = none → False) → H b = none := fun {b} no => by
      cases z : H b with
      | none => rfl
      | some u => exact (no (just b u z).1 (just b u z).2).elim
    have spaces : ∀ {b : Addr} {m : Str → Option Value}, s0.heap.Ns b m → (hidT s0.heap H).Ns b m := fun {b m} h => by
      obtain ⟨o, es, ep, e, d, r⟩ := h
      refine ⟨o, es, ep, hidT_get e (free fun z _ => ?_), d, r⟩
      subst z
      rw [sc] at e
      cases e
      cases d
    have inB : K.In (hidT s0.heap H) := fun b o e => hidT_get (inK b o e) (free fun z n => by
      subst z
      rw [n] at e
      cases e)
    have md : Mod K mg (hidT s0.heap H) := by
      obtain ⟨mc, n1, n2⟩ := nl
      exact ⟨inB, spaces gl, ⟨mb, spaces bl, bb⟩, ⟨mc, spaces n1, n2⟩⟩
    have en : Env0 P w K mg (hidT s0.heap H) callerA [] s0 H := ⟨rfl, md, fun b o e => of_hidT e, Nat.le_of_eq (hidT_size _ _), trivial, (fun b z => nomatch (show b ∈ ([] : List Addr) from z)), hok, .of_eq ng⟩
    refine codeAny_mono ((F _ inB (spaces gl)).goes callerA [] s0 H ⟨[.ref a], []⟩ [.ref a] [.ref a] _ _ room rfl en (bd s0 (.ref a)) (.cons rfl .nil) (hsp H only seq)) fun r s2 h => ?_
    match r, h with
    | .error e, h => exact (h : False).elim
    | .ok .next, h => exact (h : False).elim
    | .ok .brk, h => exact (h : False).elim
    | .ok .cont, h => exact (h : False).elim
    | .ok (.ret u), h =>
      obtain ⟨v, H2, os, bare, un, hok2, rv, rfl⟩ := h
      obtain rfl : u = Value.bool true := rv
      refine ⟨rfl, OldK.of_keep fun b o e => ?_, os, bare⟩
      rcases only b with z | ⟨ob, xs, z⟩
      · exact un.keep b o e z (fun m => nomatch (show b ∈ ([] : List Addr) from m)) (fun m => nomatch m)
      · have e1 := (hok b _ z).1
        have e2 := (hok2 b _ (un.frzs b ob _ z)).1
        rw [e] at e1
        cases e1
        exact e2
  cases own : K.lookup a with
  | some o =>
    have e := inK a o own
    rw [sc] at e
    cases e
    exact main (fun _ => none) (fun _ => .inl rfl) (.inr ⟨_, us.toArray, _, own, rfl, rfl, rfl, by rw [List.size_toArray, hin.length]; exact short, by simpa using rel⟩) (fun b u z => nomatch z) (fun b u z => nomatch z)
  | none =>
    refine main (fun b => if b = a then some (.frz { cls := .type "list", data := .seq us.toArray } (.lst (ns.map V.int))) else none) (fun b => ?_) (.inl (.inr ⟨{ cls := .type "list", data := .seq us.toArray }, if_pos rfl⟩)) (fun b u z => ?_) (fun b u z => ?_)
    · by_cases e : b = a
      · exact .inr ⟨_, _, if_pos e⟩
      · exact .inl (if_neg e)
    · by_cases e : b = a
      · have z2 := (if_pos e).symm.trans z
        cases z2
        subst e
        exact ⟨sc, by rw [List.length_map]; exact short, us, _, rel, sc⟩
      · exact nomatch ((if_neg e).symm.trans z)
    · by_cases e : b = a
      · exact ⟨e, own⟩
      · exact nomatch ((if_neg e).symm.trans z)
theorem walk_G {l : PySem.W.OpenLaw} {n k : Nat} {q : Program} {loose : List Str} {XP : (Str → Option Value) → Heap → Prop} {YP : World → Heap → Prop} {d : DefRec} {K : Params → PySem.W.Frag} {sp : World → Sp} {x : Str}
    (most : l.most = some n) (n2 : n ≤ sizeLine) (nd : d.params.defaults = []) (room : Room k callerA) (hY : ∀ (w : World) (h : Heap), YP w h → (K w.params).In h)
    (F : ∀ (w : World) (mg : Str → Option Value) (fa : Addr) (h : Heap), (K w.params).In h → h.Ns mainGlobals mg → mg d.name = some (.ref fa) →
      ∃ fd : FuncData, (∀ (s : Shared) (u : Value), BindsTo s fd ⟨[u], []⟩ [(x, u)]) ∧ ∀ base : Heap, (K w.params).In base → base.Ns mainGlobals mg → FnG l.prog w (K w.params) mg base k fa fd [x] (sp w))
    (hsp : ∀ (w : World) (H : Hp) (a : Addr) (ns : List Int), ns.length ≤ n → Only H → SqL (K w.params) H a (ns.map V.int) → sp w [.ref a] H (fun v _ => v = .bl true) E0) :
    PySem.W.WalkO q loose XP YP l.row.toRowW d [] (fun f vs => PySem.call f vs) := by
  refine Att.attach_call most nd fun w sA sB mg mb fa o pm cd doc a us ns G Y ho hd hcd hmg hobj hints hlen hg => ?_
  obtain ⟨fd, hb, hF⟩ := F w mg fa _ (hY w _ Y) G.T.g hmg
  exact lawG (hY w _ Y) G.T.g G.T.b G.T.builtins G.T.nolimit hg hobj hints (Nat.le_trans hlen n2) room hF hb fun H only seq => hsp w H a ns hlen only seq
end Rt
namespace Rt
open PySem PySem.Spec PyProof.Rows L2
theorem at_new {H H' : Hp} {p : Addr} {o : HO} (e : H' = upd H p o) : H' p = some o := by
  rw [e]
  exact upd_same
theorem SqT.frz {K : PySem.W.Frag} {H : Hp} {a : Addr} {o : Obj} {xs : List V} (h : H a = some (.frz o (.tup xs))) : SqT K H a xs := .inl (.inr ⟨o, h⟩)
section
variable {X : Cx}
/-- tuple(list), its object known -/
def rTupF (K : PySem.W.Frag) : List V → Hp → VK → Prop := fun xs H Q => ∃ p ys, xs = [.ref p] ∧ SqL K H p ys ∧ ∀ l o H', H l = none → o.dict = none → H' = upd H l (.frz o (.tup ys)) → Q (.ref l) H'
theorem call_tupF : CallR X (.type "tuple") (rTupF X.K) := by
  intro pn s σ H xs us Q I r h
  obtain ⟨p, ys, rfl, hq, q⟩ := h
  obtain ⟨u, rfl, rx⟩ := vals1 r
  cases rx
  obtain ⟨its, r', pl, hz⟩ := I.list hq
  have hln := r'.length
  refine call_tuple_list pl.isList (fun h2 kp => ?_) (by simp only [List.size_toArray] <;> omega)
  have J : Inv X pn σ H { s with heap := h2 } := I.kept (t' := s.toks) kp
  have J2 : Inv X pn σ (upd H h2.objs.size (.frz { cls := .type "tuple", data := .seq its.toArray } (.tup ys))) { s with heap := h2.push { cls := .type "tuple", data := .seq its.toArray } } :=
    J.laid (t' := s.toks) (fun b o e => Heap.get?_push_of_some _ e) (Nat.le_refl _) (show ObjOk X.prog X.w _ _ _ (.frz { cls := .type "tuple", data := .seq its.toArray } (.tup ys)) from ⟨Heap.get?_push_size _ rfl, hz, its, r', IsTup.new _ _⟩)
  exact ⟨.ref h2.objs.size, _, J2, rfl, q _ _ _ (J.hok.fresh (Nat.le_refl _)) rfl rfl⟩
/-- t.index(z) of such a tuple of texts -/
def tIdxF (K : PySem.W.Frag) (to : TE) (t : TA) : TE := fun σ H Q => to σ H fun x H1 => ∃ p o, ∃ ys : List Str, x = .ref p ∧ H1 p = some (.frz o (.tup (ys.map V.str))) ∧ o.dict = none ∧ t σ H1 fun xs H2 => ∃ z j, xs = [.str z] ∧ SqT K H2 p (ys.map V.str) ∧ ys[j]? = some z ∧ (∀ m, m < j → ys[m]? ≠ some z) ∧ Q (.int (j : Nat)) H2
theorem pe_idxF {ob e : Expr} {to : TE} {t : TA} {apos cpos : Pos} (ho : PE X ob to) (ha : PA X [e] t)
    (hbase : attributeBase ob "index" X.env (eval ob X.env) = eval ob X.env := by rfl)
    (hfew : ((backTo cpos (starEach [e] X.env)).all (fun x => !x.1) && (backToKw cpos (keywordEach [] X.env)).all (fun x => x.1.isSome) && decide (([e] : List Expr).length + ([] : List Keyword).length + (if ([] : List Keyword).isEmpty then 0 else 1) < 30)) = true := by rfl)
    (hline : (apos.endLine == cpos.line) = true := by rfl) (hs : starEach [e] X.env = (false, eval e X.env) :: starEach [] X.env := by rfl) (hplain : (backTo cpos (starEach [] X.env)).any (·.1) = false := by rfl) :
    PE X (.Call (.Attribute ob "index" apos) [e] [] cpos) (tIdxF X.K to t) := by
  refine ⟨fun pn s σ H Q I h => wpAny_Call_method_late hbase hfew hline rfl (thn (ho.run pn s σ H _ I h) fun v s1 done => ?_)⟩
  obtain ⟨x, H1, I1, r1, p, o, ys, rfl, hp, hd, q1⟩ := done
  obtain ⟨he, _, its, _, hT⟩ := I1.hok p _ hp
  have ev : v = Value.ref p := by cases r1; rfl
  refine ⟨"tuple", "tuple.index", PySem.F.plainAttrs_tuple, PySem.F.slot_tuple_index, PySem.F.type_tuple_index, by rw [ev]; exact hT.typeIs, fun a z => ?_, ?_⟩
  · rw [ev] at z
    cases z
    exact ⟨o, he, hd⟩
  have hA := ha.run cpos pn s1 σ H1 _ I1 q1
  rw [hs] at hA ⊢
  refine Calls.callWith_builtin (by show (false || (backTo cpos (starEach [] X.env)).any (·.1)) = false; rw [hplain] <;> rfl) (Calls.evalArgs_plain (thn hA fun us s2 more => ?_))
  obtain ⟨vs, H2, I2, r2, z, j, e1, e2, e3, e4, q2⟩ := more
  exact mt_tup_index pn s2 σ H2 (.ref p) vs v us Q I2 r1 r2 ⟨p, ys, z, j, rfl, e1, e2, e3, e4, q2⟩
end
end Rt
namespace Rt
open PySem PySem.Spec PyProof.Rows L2
/-! ### enumerate(tuple) -/
theorem new_enum {v : Value} {o : Obj} {Hq : Heap → Prop} (B : Begins v o Hq) :
    Meets (Builtin.«enumerate.__new__» ⟨[.type "enumerate", v], []⟩) (fun _ R s => Hq s.heap ∧
      R (.ok (.ret (.ref (s.heap.push o).objs.size))) { s with heap := (s.heap.push o).push { cls := .type "enumerate", data := .fields #[.none, .bool false, .ref s.heap.objs.size, rawInt 0, .none, .none] } }) :=
  .of_wp fun prog w A R s h => by
    obtain ⟨hp, gn, dr, tk, os⟩ := s; obtain ⟨hq, h⟩ := h
    have sub := sub_enumerate
    have it : ∀ {A2 : Around} {E : Value → Shared → Prop} {Q : Value → Shared → Prop}, Q (.ref hp.objs.size) ⟨hp.push o, gn, dr, tk, os⟩ → wpAny (model prog w) A2 (pyIter v) Q E ⟨hp, gn, dr, tk, os⟩ :=
      fun q => B.iter prog w _ _ ⟨hp, gn, dr, tk, os⟩ _ hq q
    wp_walk using it
    refine wpAny_stack_any fun st => wpAny_pure ?_
    split
    · rename_i c _ _ _ _ _
      cases (c == Value.type "enumerate")
      all_goals (wp_walk using it; exact ⟨_, rfl, h⟩)
    · wp_walk using it
      exact ⟨_, rfl, h⟩
section
variable {prog : Program} {w : World} {A : Around} {E : Value → Shared → Prop} {s : Shared}
theorem call_enum {v : Value} {o : Obj} {Hq : Heap → Prop} {Q : Value → Shared → Prop} (B : Begins v o Hq) (hq : Hq s.heap)
    (h : ∀ h2, IsEnum h2 (s.heap.objs.size + 1) s.heap.objs.size 0 .none → h2.get? s.heap.objs.size = some o → (∀ b ob, s.heap.get? b = some ob → h2.get? b = some ob) → Q (.ref (s.heap.objs.size + 1)) { s with heap := h2 }) :
    wpAny (model prog w) A (call (.type "enumerate") [v]) Q E s := by
  refine callType_new F.called_enumerate (by decide) (F.typeCall_enumerate_1 _) (F.newCall_enumerate_1 _) (fun obj => F.args_object_init_2 obj _) F.entry_enumerate_new (new_enum B) ⟨hq, ?_⟩
  have sz1 : (s.heap.push o).objs.size = s.heap.objs.size + 1 := Heap.size_push ..
  have en : IsEnum ((s.heap.push o).push { cls := .type "enumerate", data := .fields #[.none, .bool false, .ref s.heap.objs.size, rawInt 0, .none, .none] }) (s.heap.objs.size + 1) s.heap.objs.size 0 .none := by
    have z := Heap.get?_push_size (s.heap.push o) (o := { cls := .type "enumerate", data := .fields #[.none, .bool false, .ref s.heap.objs.size, rawInt 0, .none, .none] }) rfl
    rwa [sz1] at z
  show _ ∧ _
  rw [sz1]
  exact ⟨⟨_, en, rfl⟩, h _ en (Heap.get?_push_of_some _ (Heap.get?_push_size _ B.free)) fun b ob z => Heap.get?_push_of_some _ (Heap.get?_push_of_some _ z)⟩
end
/-- the tuple at a as it stands at each turn, each item in a new pair -/
def IteT (K : PySem.W.Frag) (a : Addr) : It :=
  ⟨fun i H => ∃ (xs : List V) (x : V), SqT K H a xs ∧ xs[i]? = some x, fun i H v H' => ∃ T x, v = .ref T ∧ H T = none ∧ H' = upd H T (.tup [.int (i : Nat), x]) ∧ ∀ xs, SqT K H a xs → xs[i]? = some x, fun i H => ∃ xs : List V, SqT K H a xs ∧ xs.length = i⟩
theorem turn_enumT {P : Program} {w : World} {K : PySem.W.Frag} {elts : List Expr} {kk : Nat} {tpos : Pos} (a e it : Addr) :
    Turn P w K (.Tuple elts kk tpos) (IteT K a) [e, it] e (fun i h => (∃ old, IsEnum h e it ((i : Nat) : Int) old) ∧ h.IsTupleIter it a i ∧ e ≠ it ∧ a ≠ it ∧ a ≠ e) where
  mem := by simp
  obj := by
    rintro i h ⟨⟨old, he⟩, ⟨o, ho, hc, hd⟩, _⟩ b hb
    rcases (by simpa using hb : b = e ∨ b = it) with rfl | rfl
    · exact ⟨_, he, fun v q => nomatch q⟩
    · exact ⟨o, ho, fun v q => by rw [hd] at q; cases q⟩
  keep := by
    rintro i h h2 ⟨⟨old, he⟩, hi, ne⟩ k
    exact ⟨⟨old, k e (by simp) _ he⟩, hi.at fun o q => k it (by simp) o q, ne⟩
  item := by
    intro X hP hw hK hc i pn s σ H E I hf st hg
    subst hP hw hK
    obtain ⟨⟨old, he⟩, hit, ne, nai, nae⟩ := st
    obtain ⟨xs, x, hq, hx⟩ := hg
    obtain ⟨its, rv, tp, hz⟩ := I.tuple hq
    obtain ⟨u, hu, ru⟩ := rv.get hx
    have hel : e < s.heap.objs.size := Heap.lt_size he
    have hil : it < s.heap.objs.size := by obtain ⟨_, q, _⟩ := hit; exact Heap.lt_size q
    have hlt : i < its.toArray.size := by simpa using (List.getElem?_eq_some_iff.mp hu).1
    refine wpAny_pyNext_enum_itemD (Draws.tuple (A := X.A.in1) (I.ok.hd hc) it a nai its.toArray) he ⟨hit, tp⟩ hlt ne (by simp [ne, Ne.symm nae]) fun y h2 tk hy ho hst hT hsz hk => ?_
    have eu : y = u := by
      have : its.toArray[i]? = some u := by simpa using hu
      rw [this] at hy
      exact (Option.some.inj hy).symm
    subst eu
    refine ⟨_, rfl, wpAny_letOwnedTupleGo_enum (s := { s with heap := h2, toks := tk + 1 }) ho fun h3 he3 sb => ?_⟩
    have hT3 : h3.get? s.heap.objs.size = some { cls := .type "tuple", data := .seq #[.int i tk, y] } := (sb.2 _ (Nat.ne_of_gt hel)).trans hT
    have fresh : ObjOk X.prog X.w (upd H s.heap.objs.size (.tup [.int (i : Nat), x])) h3 s.heap.objs.size (.tup [.int (i : Nat), x]) :=
      ⟨sz (n := 2) (by decide), [.int i tk, y], .cons ⟨_, rfl⟩ (.cons ru .nil), ⟨_, hT3, rfl, _, rfl⟩⟩
    have J : Inv X pn σ (upd H s.heap.objs.size (.tup [.int (i : Nat), x])) { s with heap := h3, toks := tk + 1 } :=
      I.turnedNew (ch := [e, it]) (fun b ob hb q => (sb.2 b (fun z => hb (by simp [z]))).trans (hk b ob (fun z => hb (by simp [z])) (fun z => hb (by simp [z])) q)) hf (Nat.le_refl _) fresh
    have ci : ((i + 1 : Nat) : Int) = (i : Int) + 1 := by omega
    refine ⟨.ref s.heap.objs.size, _, J, rfl, ⟨_, x, rfl, I.hok.fresh (Nat.le_refl _), rfl, fun ys hy2 => by rw [I.tuple_inj hy2 hq]; exact hx⟩, ⟨⟨y, by rw [ci]; exact he3⟩, hst.1.at fun o q => (sb.2 it (Ne.symm ne)).trans q, ne, nai, nae⟩, fun b hb => ?_⟩
    have lt : b < s.heap.objs.size := by
      rcases (by simpa using hb : b = e ∨ b = it) with rfl | rfl
      · exact hel
      · exact hil
    rw [upd_ne (Nat.ne_of_lt lt)]
    exact (hf b hb).1
  done := by
    intro X hP hw hK hc i pn s σ H E I hf st hg
    subst hP hw hK
    obtain ⟨⟨old, he⟩, hit, ne, nai, nae⟩ := st
    obtain ⟨xs, hq, hx⟩ := hg
    obtain ⟨its, rv, tp, hz⟩ := I.tuple hq
    obtain ⟨f0, f1, f2, f3, f4, f5⟩ := hf it (by simp)
    have en : i = its.toArray.size := by rw [List.size_toArray, ← rv.length, hx]
    exact wpAny_pyNext_enum_endD (Draws.tuple (A := X.A.in1) (I.ok.hd hc) it a nai its.toArray) he ⟨by rw [← en]; exact hit, tp⟩ fun h2 eb => ⟨rfl, I.turned (t' := s.toks) (fun b o hb q => eb b o hb q) f0 f1 f3 f4 f5⟩
  self := by
    rintro A i s Q E ⟨⟨_, he⟩, _⟩ h
    exact wpAny_pyIter_enum he h
def iEnumT (K : PySem.W.Frag) (ta : TA) : TI := fun σ H R => ta σ H fun vs H1 => ∃ a xs, vs = [.ref a] ∧ SqT K H1 a xs ∧ R (IteT K a) H1
theorem pi_enumT {X : Cx} {e : Expr} {ta : TA} {p pos tpos : Pos} {elts : List Expr} {kk : Nat} (hg : Gl X "enumerate") (hm : X.mg "enumerate" = none) (ha : PA X [e] ta) (hs : starEach [e] X.env = [(false, eval e X.env)] := by rfl) :
    PI X (.Tuple elts kk tpos) (.Call (.Name "enumerate" p) [e] [] pos) (iEnumT X.K ta) := by
  refine ⟨fun pn s σ H R I h => Call_ (ld_blt I hg hm boot_enumerate (PyProof.Rows.callWith_type1 (thn (ha.run pos pn s σ H _ I h) fun us s1 done => ?_) hs rfl))⟩
  obtain ⟨vs, H1, J, r1, a, xs, rfl, hq, q⟩ := done
  obtain ⟨u, rfl, rx⟩ := vals1 r1
  cases rx
  obtain ⟨its, rv, tp, hz⟩ := J.tuple hq
  have hal : a < s1.heap.objs.size := by obtain ⟨_, z, _⟩ := tp; exact Heap.lt_size z
  refine call_enum (begins_tuple a its.toArray) tp fun h2 he hit hk => wpAny_pyIter_enum he ?_
  refine ⟨s1.heap.objs.size + 1, [s1.heap.objs.size + 1, s1.heap.objs.size], _, _, H1, rfl, J.kept (t' := s1.toks) hk, turn_enumT a (s1.heap.objs.size + 1) s1.heap.objs.size, ⟨⟨.none, he⟩, ⟨_, hit, rfl, rfl⟩, Nat.succ_ne_self _, Nat.ne_of_lt hal, Nat.ne_of_lt (Nat.lt_succ_of_lt hal)⟩, fun b hb => ?_, q⟩
  have le : s1.heap.objs.size ≤ b := by
    rcases (by simpa using hb : b = s1.heap.objs.size + 1 ∨ b = s1.heap.objs.size) with rfl | rfl
    · exact Nat.le_succ _
    · exact Nat.le_refl _
  exact J.fpOk le (J.hok.fresh le)
theorem walk_enumT {K : PySem.W.Frag} {a : Addr} {xs : List V} : Walk (IteT K a) xs.length (fun H => SqT K H a xs) (YPair (fun i => some (.int (i : Nat))) (fun i => xs[i]?)) := by
  refine ⟨fun i H hi z => ⟨xs, xs[i], z, by simp [hi]⟩, fun H z => ⟨xs, z, rfl⟩, fun i H v H' hi z y => ?_⟩
  obtain ⟨T, x, h1, h2, h3, h4⟩ := y
  exact ⟨T, .int (i : Nat), x, h1, h2, h3, rfl, h4 xs z⟩
end Rt
namespace Rt
open PySem PySem.Spec PyProof.Rows L2
/-! ### tuple * 1 -/
theorem tuple_mul1 (l : Addr) (items : Array Value) (n : Nat) (dd : Option Addr) (sl : Array (Option Value)) (u : Tok) (c1 : (items.isEmpty || (1 : Int) == 1) = true) :
    Meets (Builtin.«tuple.__mul__» ⟨[.ref l, .int 1 u], []⟩) (fun _ R s => s.heap.get? l = some { cls := .type "tuple", dict := dd, data := .seq items n, slots := sl } ∧
      R (.ok (.ret (Value.ref l))) s) :=
  .of_wp fun prog w A R s h => by
    obtain ⟨hp, g, d, tk, os⟩ := s
    obtain ⟨hl, h⟩ := h
    have f1 := AutoSeq1.idx_int
    have c0 : (decide ((1 : Int) < -(2 ^ 63)) || decide ((1 : Int) ≥ 2 ^ 63)) = false := by decide
    wp_walk using wpAny_loadPart' hl
    repeat (first
      | (refine wpAny_ite_false (decide_eq_false (by rw [c0]; exact Bool.false_ne_true)) ?_; wp_walk using wpAny_loadPart' hl)
      | (refine wpAny_ite_true (decide_eq_true c1) ?_; wp_walk using wpAny_loadPart' hl))
    exact ⟨_, rfl, h⟩
theorem smN {H : Hp} {p : Addr} {o : HO} (h : H p = none) : Same H (upd H p o) := fun b x e => by
  rw [upd_ne (ne_of_none e h)]
  exact e
section
variable {X : Cx}
/-- t * k -/
def rRepS1 : R2 := fun x y H Q => ∃ l k xs, x = .ref l ∧ y = .int k ∧ H l = some (.tup xs) ∧ xs ≠ [] ∧ 1 ≤ k ∧ k ≤ 1000 ∧ xs.length ≤ 1000 ∧ ∀ p H', Same H H' → H' p = some (.tup (List.replicate k.toNat xs).flatten) → Q (.ref p) H'
theorem op_repS1 : OpR X (binaryOp .Mult) rRepS1 := by
  intro pins s σ H x y v u Q I rx ry h
  obtain ⟨l, k, xs, rfl, rfl, hT, hne, h1, h2, hz, q⟩ := h
  by_cases e : k = 1
  · subst e
    cases rx
    obtain ⟨t, rfl⟩ := ry
    obtain ⟨its, r, ⟨⟨cls, dd, data, sl⟩, ho, hc, n, hd⟩, hs⟩ := I.tuple (SqT.of hT)
    simp only at hc hd
    subst hc hd
    refine wpAny_binaryOp_repeat_ref (T := "tuple") (U := "int") (by decide) ⟨_, ho, rfl⟩ (fun s' => typeIs_int s' 1 t) noFill_tuple_mul F.fills_int_mul F.slot_int_rmul repeat_tuple F.slot_int_index.lookup
      (call_meets F.slot_int_rmul (typeIs_int s 1 t) F.entry_int_rmul (F.args_int_rmul_2 _ _) (int_rmul_tuple 1 t l its.toArray n dd sl)
        ⟨ho, rfl, ⟨_, ho, rfl⟩, call_meets F.slot_tuple_mul ⟨_, ho, rfl⟩ F.entry_tuple_mul (F.args_tuple_mul_2 _ _) (tuple_mul1 l its.toArray n dd sl t (by simp)) ⟨ho, ?_⟩⟩)
    refine ⟨.ref l, H, I, rfl, q l H (Same.refl H) ?_⟩
    rw [hT]
    simp
  · exact op_repT pins s σ H _ _ v u Q I rx ry ⟨l, k, xs, rfl, rfl, SqT.of hT, hne, by omega, h2, hz, fun p np => q p _ (smN np) upd_same⟩
/-- t + u -/
def rCatS : R2 := fun x y H Q => ∃ a b xs ys, x = .ref a ∧ y = .ref b ∧ H a = some (.tup xs) ∧ H b = some (.tup ys) ∧ xs.length + ys.length ≤ 1000 ∧ ∀ p H', Same H H' → H' p = some (.tup (xs ++ ys)) → Q (.ref p) H'
theorem op_catS : OpR X (binaryOp .Add) rCatS := by
  intro pins s σ H x y v u Q I rx ry h
  obtain ⟨a, b, xs, ys, rfl, rfl, ha, hb, hz, q⟩ := h
  refine op_catA pins s σ H _ _ v u Q I rx ry ⟨a, b, xs, ys, rfl, rfl, SqT.of ha, SqT.of hb, sz (by omega), fun e => q b H (Same.refl H) ?_, fun _ e => q a H (Same.refl H) ?_, fun _ _ p np => q p _ (smN np) upd_same⟩
  · rw [hb, e]; rfl
  · rw [ha, e, List.append_nil]
/-- t[lo:hi] -/
def rSlS : V → Option Int → Option Int → Hp → VK → Prop := fun x lo hi H Q => ∃ a xs, x = .ref a ∧ H a = some (.tup xs) ∧ ∀ p H', Same H H' → H' p = some (.tup (cutV xs lo hi)) → Q (.ref p) H'
theorem sl_tupS : SlR X rSlS := by
  intro pins s σ H x v vl vu lo hi sl Q I rx hs pl pu h
  obtain ⟨a, xs, rfl, ha, q⟩ := h
  refine sl_tupA pins s σ H _ v vl vu lo hi sl Q I rx hs pl pu ⟨a, xs, rfl, SqT.of ha, fun hw => q a H (Same.refl H) ?_, fun _ p np => q p _ (smN np) upd_same⟩
  rw [ha]
  unfold cutV
  rw [hw.1, hw.2, List.drop_zero, Nat.sub_zero, List.take_length]
end
theorem cut_lo {xs : List V} {m : Nat} (h : m ≤ xs.length) : cutV xs none (some (m : Int)) = xs.take m := by
  unfold cutV
  rw [HT.sIx_none, HT.sIx_nat, List.drop_zero, Nat.sub_zero, Nat.min_eq_left h]
theorem cut_hi {xs : List V} {m : Nat} (h : m ≤ xs.length) : cutV xs (some (m : Int)) none = xs.drop m := by
  unfold cutV
  rw [HT.sIx_none, HT.sIx_nat, Nat.min_eq_left h, List.take_of_length_le (by rw [List.length_drop]; omega)]
theorem set_cut {xs : List V} {m : Nat} {v : V} (h : m < xs.length) : xs.take m ++ [v] ++ xs.drop (m + 1) = xs.set m v := by
  rw [List.set_eq_take_append_cons_drop, if_pos h, List.append_assoc]
  rfl
end Rt
namespace Dl
open PySem PySem.Spec PyProof.Rows L2 Rt
abbrev D := PyData
/-! ### data at values -/
def TupF (H : Hp) (a : Addr) (xs : List V) : Prop := ∃ o : Obj, H a = some (.frz o (.tup xs)) ∧ o.dict = none
/-- a key as data -/
def kD : Key → D
  | .inl i => .int i
  | .inr x => .str x
mutual
inductive Rp (M : Addr → Prop) (H : Hp) : V → D → Prop
  | non : Rp M H .non .none
  | bl (b : Bool) : Rp M H (.bl b) (.bool b)
  | int (i : Int) : Rp M H (.int i) (.int i)
  | str (x : Str) (h : x.length ≤ sizeLine) : Rp M H (.str x) (.str x)
  | tup {a : Addr} {xs : List V} {ds : List D} : TupF H a xs → ¬ M a → xs.length ≤ sizeLine → RpAll M H xs ds → Rp M H (.ref a) (.tuple ds)
  | lst {a : Addr} {xs : List V} {ds : List D} : H a = some (.lst xs) → ¬ M a → xs.length ≤ sizeLine → RpAll M H xs ds → Rp M H (.ref a) (.list ds)
  | dic {a : Addr} {kvs : List (Key × V)} {es : List (D × D)} : H a = some (.dK kvs) → ¬ M a → RpKV M H kvs es → Rp M H (.ref a) (.dict es)
inductive RpKV (M : Addr → Prop) (H : Hp) : List (Key × V) → List (D × D) → Prop
  | nil : RpKV M H [] []
  | cons {k : Key} {v : V} {kvs : List (Key × V)} {d : D} {es : List (D × D)} : Rp M H v d → RpKV M H kvs es → RpKV M H ((k, v) :: kvs) ((kD k, d) :: es)
inductive RpAll (M : Addr → Prop) (H : Hp) : List V → List D → Prop
  | nil : RpAll M H [] []
  | cons {v : V} {vs : List V} {d : D} {ds : List D} : Rp M H v d → RpAll M H vs ds → RpAll M H (v :: vs) (d :: ds)
end
def KpM (M : Addr → Prop) (H H' : Hp) : Prop := ∀ p o, ¬ M p → H p = some o → H' p = some o
theorem KpM.of {M : Addr → Prop} {H H' : Hp} (s : Same H H') : KpM M H H' := fun p o _ e => s p o e
theorem KpM.refl {M : Addr → Prop} {H : Hp} : KpM M H H := fun p o _ e => e
def Dom (M : Addr → Prop) (H : Hp) : Prop := ∀ p, M p → H p ≠ none
theorem Dom.mono {M : Addr → Prop} {H H' : Hp} (d : Dom M H) (s : Same H H') : Dom M H' := fun p m e => by
  cases z : H p with
  | none => exact d p m z
  | some o => rw [s p o z] at e; cases e
theorem Dom.not {M : Addr → Prop} {H : Hp} {p : Addr} (d : Dom M H) (e : H p = none) : ¬ M p := fun m => d p m e
mutual
theorem Rp.mono {M : Addr → Prop} {H H' : Hp} (k : KpM M H H') : ∀ {v : V} {d : D}, Rp M H v d → Rp M H' v d
  | _, _, .non => .non
  | _, _, .bl b => .bl b
  | _, _, .int i => .int i
  | _, _, .str x h => .str x h
  | _, _, .tup ⟨o, e, z⟩ n l h => .tup ⟨o, k _ _ n e, z⟩ n l (RpAll.mono k h)
  | _, _, .lst e n l h => .lst (k _ _ n e) n l (RpAll.mono k h)
  | _, _, .dic e n h => .dic (k _ _ n e) n (RpKV.mono k h)
theorem RpKV.mono {M : Addr → Prop} {H H' : Hp} (k : KpM M H H') : ∀ {vs : List (Key × V)} {ds : List (D × D)}, RpKV M H vs ds → RpKV M H' vs ds
  | _, _, .nil => .nil
  | _, _, .cons h t => .cons (Rp.mono k h) (RpKV.mono k t)
theorem RpAll.mono {M : Addr → Prop} {H H' : Hp} (k : KpM M H H') : ∀ {vs : List V} {ds : List D}, RpAll M H vs ds → RpAll M H' vs ds
  | _, _, .nil => .nil
  | _, _, .cons h t => .cons (Rp.mono k h) (RpAll.mono k t)
end
mutual
theorem Rp.reM {M M' : Addr → Prop} {H : Hp} (k : ∀ a, M' a → M a ∨ H a = none) : ∀ {v : V} {d : D}, Rp M H v d → Rp M' H v d
  | _, _, .non => .non
  | _, _, .bl b => .bl b
  | _, _, .int i => .int i
  | _, _, .str x h => .str x h
  | _, _, .tup ⟨o, e, z⟩ n l h => .tup ⟨o, e, z⟩ (fun m => (k _ m).elim n (fun q => by rw [q] at e; cases e)) l (RpAll.reM k h)
  | _, _, .lst e n l h => .lst e (fun m => (k _ m).elim n (fun q => by rw [q] at e; cases e)) l (RpAll.reM k h)
  | _, _, .dic e n h => .dic e (fun m => (k _ m).elim n (fun q => by rw [q] at e; cases e)) (RpKV.reM k h)
theorem RpKV.reM {M M' : Addr → Prop} {H : Hp} (k : ∀ a, M' a → M a ∨ H a = none) : ∀ {vs : List (Key × V)} {ds : List (D × D)}, RpKV M H vs ds → RpKV M' H vs ds
  | _, _, .nil => .nil
  | _, _, .cons h t => .cons (Rp.reM k h) (RpKV.reM k t)
theorem RpAll.reM {M M' : Addr → Prop} {H : Hp} (k : ∀ a, M' a → M a ∨ H a = none) : ∀ {vs : List V} {ds : List D}, RpAll M H vs ds → RpAll M' H vs ds
  | _, _, .nil => .nil
  | _, _, .cons h t => .cons (Rp.reM k h) (RpAll.reM k t)
end
theorem TupF.sq {K : PySem.W.Frag} {H : Hp} {a : Addr} {xs : List V} (h : TupF H a xs) : SqT K H a xs := by
  obtain ⟨o, e, _⟩ := h
  exact .inl (.inr ⟨o, e⟩)
mutual
theorem Rp.dp {K : PySem.W.Frag} {M : Addr → Prop} {H : Hp} : ∀ {v : V} {d : D}, Rp M H v d → d.hasDict = false → Dp K H v d
  | _, _, .non, _ => .non
  | _, _, .bl b, _ => .bl b
  | _, _, .int i, _ => .int i
  | _, _, .str x h, _ => .str x
  | _, _, .tup t n l h, e => .tup t.sq (RpAll.dp h e)
  | _, _, .lst t n l h, e => .lst (SqL.of t) (RpAll.dp h e)
  | _, _, .dic t n h, e => nomatch e
theorem RpAll.dp {K : PySem.W.Frag} {M : Addr → Prop} {H : Hp} : ∀ {vs : List V} {ds : List D}, RpAll M H vs ds → PyData.hasDictAll ds = false → DpAll K H vs ds
  | _, _, .nil, _ => .nil
  | _, _, .cons h t, e => by
    have e2 := Bool.or_eq_false_iff.mp e
    exact .cons (Rp.dp h e2.1) (RpAll.dp t e2.2)
end
theorem RpAll.len {M : Addr → Prop} {H : Hp} : ∀ {vs : List V} {ds : List D}, RpAll M H vs ds → vs.length = ds.length
  | _, _, .nil => rfl
  | _, _, .cons _ t => congrArg (· + 1) t.len
theorem RpAll.get {M : Addr → Prop} {H : Hp} : ∀ {vs : List V} {ds : List D} {i : Nat} {d : D}, RpAll M H vs ds → ds[i]? = some d → ∃ v, vs[i]? = some v ∧ Rp M H v d
  | _, _, _, _, .nil, e => nomatch e
  | _, _, 0, _, .cons h t, e => by cases e; exact ⟨_, rfl, h⟩
  | _, _, i + 1, _, .cons h t, e => t.get (i := i) e
theorem RpAll.getV {M : Addr → Prop} {H : Hp} : ∀ {vs : List V} {ds : List D} {i : Nat} {v : V}, RpAll M H vs ds → vs[i]? = some v → ∃ d, ds[i]? = some d ∧ Rp M H v d
  | _, _, _, _, .nil, e => nomatch e
  | _, _, 0, _, .cons h t, e => by cases e; exact ⟨_, rfl, h⟩
  | _, _, i + 1, _, .cons h t, e => t.getV (i := i) e
theorem RpAll.app {M : Addr → Prop} {H : Hp} : ∀ {vs ws : List V} {ds es : List D}, RpAll M H vs ds → RpAll M H ws es → RpAll M H (vs ++ ws) (ds ++ es)
  | _, _, _, _, .nil, b => b
  | _, _, _, _, .cons h t, b => .cons h (t.app b)
theorem RpAll.drop {M : Addr → Prop} {H : Hp} : ∀ {vs : List V} {ds : List D} (n : Nat), RpAll M H vs ds → RpAll M H (vs.drop n) (ds.drop n)
  | _, _, 0, h => h
  | _, _, n + 1, .nil => .nil
  | _, _, n + 1, .cons h t => t.drop n
theorem RpAll.take {M : Addr → Prop} {H : Hp} : ∀ {vs : List V} {ds : List D} (n : Nat), RpAll M H vs ds → RpAll M H (vs.take n) (ds.take n)
  | _, _, 0, h => .nil
  | _, _, n + 1, .nil => .nil
  | _, _, n + 1, .cons h t => .cons h (t.take n)
theorem RpAll.set {M : Addr → Prop} {H : Hp} {v : V} {d : D} (h : Rp M H v d) : ∀ {vs : List V} {ds : List D} (n : Nat), RpAll M H vs ds → RpAll M H (vs.set n v) (ds.set n d)
  | _, _, n, .nil => .nil
  | _, _, 0, .cons _ t => .cons h t
  | _, _, n + 1, .cons g t => .cons g (RpAll.set h n t)
/-! ### the slots -/
inductive LV
  | dat (d : D)
  | own (ds : List D)
  | raw (v : V)
  | pool
abbrev Rho := List (Option LV)
/-- what may not be part of data: the caller's own lists, and the def's -/
def Mu (μ : Bool) (M0 : Addr → Prop) (σ : L2.St) (ρ : Rho) (p : Addr) : Prop := M0 p ∨ (μ = true ∧ ∃ (i : Nat) (ds : List D), ρ[i]? = some (some (.own ds)) ∧ σ[i]? = some (some (.ref p)))
structure Rs (M0 : Addr → Prop) (H0 H : Hp) (σ : L2.St) (ρ : Rho) : Prop where
  sm : Same H0 H
  dom : Dom M0 H0
  len : ρ.length = σ.length
  dat : ∀ (i : Nat) (d : D), ρ[i]? = some (some (.dat d)) → ∃ v, σ[i]? = some (some v) ∧ Rp (Mu true M0 σ ρ) H v d
  own : ∀ (i : Nat) (ds : List D), ρ[i]? = some (some (.own ds)) → ∃ p vs, σ[i]? = some (some (.ref p)) ∧ H p = some (.lst vs) ∧ H0 p = none ∧ vs.length ≤ sizeLine ∧ RpAll (Mu true M0 σ ρ) H vs ds
  raw : ∀ (i : Nat) (v : V), ρ[i]? = some (some (.raw v)) → σ[i]? = some (some v)
  inj : ∀ (i j : Nat) (a b : List D) (p : Addr), ρ[i]? = some (some (.own a)) → ρ[j]? = some (some (.own b)) → σ[i]? = some (some (.ref p)) → σ[j]? = some (some (.ref p)) → i = j
theorem Rs.mono {M0 : Addr → Prop} {H0 H H' : Hp} {σ : L2.St} {ρ : Rho} (R : Rs M0 H0 H σ ρ) (s : Same H H') : Rs M0 H0 H' σ ρ where
  sm := R.sm.trans s
  dom := R.dom
  len := R.len
  dat := fun i d e => by
    obtain ⟨v, a, b⟩ := R.dat i d e
    exact ⟨v, a, b.mono (.of s)⟩
  own := fun i ds e => by
    obtain ⟨p, vs, a, b, c, l, r⟩ := R.own i ds e
    exact ⟨p, vs, a, s _ _ b, c, l, r.mono (.of s)⟩
  raw := R.raw
  inj := R.inj
theorem Rs.domu {M0 : Addr → Prop} {H0 H : Hp} {σ : L2.St} {ρ : Rho} (R : Rs M0 H0 H σ ρ) (μ : Bool) : Dom (Mu μ M0 σ ρ) H := fun p m e => by
  rcases m with m | ⟨_, i, ds, e1, e2⟩
  · exact R.dom.mono R.sm p m e
  · obtain ⟨q, vs, a, b, _⟩ := R.own i ds e1
    rw [e2] at a
    cases a
    rw [b] at e
    cases e
theorem Mu.up {μ : Bool} {M0 : Addr → Prop} {σ : L2.St} {ρ : Rho} {H : Hp} : ∀ a, Mu μ M0 σ ρ a → Mu true M0 σ ρ a ∨ H a = none := fun a m => .inl (by
  rcases m with m | ⟨_, m⟩
  · exact .inl m
  · exact .inr ⟨rfl, m⟩)
theorem Mu.lo {μ : Bool} {M0 : Addr → Prop} {σ : L2.St} {ρ : Rho} {H : Hp} : ∀ a, M0 a → Mu μ M0 σ ρ a ∨ H a = none := fun a m => .inl (.inl m)
theorem Rp.toMu {μ : Bool} {M0 : Addr → Prop} {σ : L2.St} {ρ : Rho} {H : Hp} {v : V} {d : D} (h : Rp (Mu true M0 σ ρ) H v d) : Rp (Mu μ M0 σ ρ) H v d := h.reM Mu.up
theorem RpAll.toMu {μ : Bool} {M0 : Addr → Prop} {σ : L2.St} {ρ : Rho} {H : Hp} {v : List V} {d : List D} (h : RpAll (Mu true M0 σ ρ) H v d) : RpAll (Mu μ M0 σ ρ) H v d := h.reM Mu.up
theorem some_bind {α β : Type} {o : Option α} {f : α → Option β} {b : β} (h : o.bind f = some b) : ∃ a, o = some a ∧ f a = some b := by
  cases o with
  | none => cases h
  | some a => exact ⟨a, rfl, h⟩
mutual
def nl : D → Bool
  | .tuple ds => nlAll ds
  | .list _ => false
  | .dict _ => false
  | _ => true
def nlAll : List D → Bool
  | [] => true
  | d :: ds => nl d && nlAll ds
end
mutual
theorem Rp.nl {M M' : Addr → Prop} {H : Hp} : ∀ {v : V} {d : D}, Rp M H v d → Dl.nl d = true → (∀ a, M' a → M a ∨ ∃ xs, H a = some (.lst xs)) → Rp M' H v d
  | _, _, .non, _, _ => .non
  | _, _, .bl b, _, _ => .bl b
  | _, _, .int i, _, _ => .int i
  | _, _, .str x h, _, _ => .str x h
  | _, _, .tup ⟨o, e, z⟩ n l h, q, k => .tup ⟨o, e, z⟩ (fun m => (k _ m).elim n (fun ⟨xs, y⟩ => by rw [y] at e; cases e)) l (RpAll.nl h q k)
  | _, _, .lst e n l h, q, k => nomatch q
  | _, _, .dic e n h, q, k => nomatch q
theorem RpAll.nl {M M' : Addr → Prop} {H : Hp} : ∀ {vs : List V} {ds : List D}, RpAll M H vs ds → nlAll ds = true → (∀ a, M' a → M a ∨ ∃ xs, H a = some (.lst xs)) → RpAll M' H vs ds
  | _, _, .nil, _, _ => .nil
  | _, _, .cons h t, q, k => by
    have q2 := Bool.and_eq_true_iff.mp q
    exact .cons (Rp.nl h q2.1 k) (RpAll.nl t q2.2 k)
end
/-! ### readings by data -/
abbrev EF := Rho → Option D
def tD (μ : Bool) (f : EF) : TE := fun σ H Q => ∃ M0 H0 ρ d, Rs M0 H0 H σ ρ ∧ f ρ = some d ∧ ∀ v H', Same H H' → Rp (Mu μ M0 σ ρ) H' v d → Q v H'
def tA (μ : Bool) (f : Rho → Option (List D)) : TA := fun σ H Q => ∃ M0 H0 ρ ds, Rs M0 H0 H σ ρ ∧ f ρ = some ds ∧ ∀ vs H', Same H H' → RpAll (Mu μ M0 σ ρ) H' vs ds → Q vs H'
def tT (f : Rho → Option Bool) : TT := fun σ H Q => ∃ M0 H0 ρ b, Rs M0 H0 H σ ρ ∧ f ρ = some b ∧ ∀ H', Same H H' → Q b H'
inductive Out
  | nx (ρ : Rho)
  | rt (d : D)
  | bk (ρ : Rho)
  | ct (ρ : Rho)
/-- a step: what is nobody's own stands, own lists are old ones or new -/
structure Stp (M0 : Addr → Prop) (σ : L2.St) (ρ : Rho) (H : Hp) (σ' : L2.St) (ρ' : Rho) (H' : Hp) : Prop where
  kp : KpM (Mu true M0 σ ρ) H H'
  ow : ∀ p, Mu true M0 σ' ρ' p → Mu true M0 σ ρ p ∨ H p = none
theorem Stp.refl {M0 : Addr → Prop} {σ : L2.St} {ρ : Rho} {H : Hp} : Stp M0 σ ρ H σ ρ H := ⟨.refl, fun p m => .inl m⟩
theorem Stp.trans {M0 : Addr → Prop} {σ σ1 σ2 : L2.St} {ρ ρ1 ρ2 : Rho} {H H1 H2 : Hp} (a : Stp M0 σ ρ H σ1 ρ1 H1) (b : Stp M0 σ1 ρ1 H1 σ2 ρ2 H2) : Stp M0 σ ρ H σ2 ρ2 H2 where
  kp := fun p o n e => b.kp p o (fun m => (a.ow p m).elim n (fun z => by rw [z] at e; cases e)) (a.kp p o n e)
  ow := fun p m => by
    rcases b.ow p m with m1 | z
    · exact a.ow p m1
    · by_cases h : Mu true M0 σ ρ p
      · exact .inl h
      · cases e : H p with
        | none => exact .inr rfl
        | some o => rw [a.kp p o h e] at z; cases z
def tS (f : Rho → Option Out) : TS := fun Dn σ H => ∃ M0 H0 ρ o, Rs M0 H0 H σ ρ ∧ f ρ = some o ∧ (match o with
  | .nx ρ' => ∀ σ' H', Rs M0 H0 H' σ' ρ' → Stp M0 σ ρ H σ' ρ' H' → Dn.nx σ' H'
  | .rt d => ∀ v H', Same H0 H' → Rp M0 H' v d → Dn.rt v H'
  | .bk ρ' => ∀ σ' H', Rs M0 H0 H' σ' ρ' → Stp M0 σ ρ H σ' ρ' H' → Dn.bk σ' H'
  | .ct ρ' => ∀ σ' H', Rs M0 H0 H' σ' ρ' → Stp M0 σ ρ H σ' ρ' H' → Dn.ct σ' H')
section
variable {X : Cx}
theorem _root_.L2.PE.wk {e : Expr} {t t' : TE} (h : PE X e t) (m : ∀ σ H Q, t' σ H Q → t σ H Q) : PE X e t' := ⟨fun pn s σ H Q I q => h.run pn s σ H Q I (m _ _ _ q)⟩
theorem _root_.L2.PT.wk {e : Expr} {t t' : TT} (h : PT X e t) (m : ∀ σ H Q, t' σ H Q → t σ H Q) : PT X e t' := ⟨fun pn s σ H Q I q => h.run pn s σ H Q I (m _ _ _ q)⟩
theorem _root_.L2.PW.wk {e : Expr} {t t' : TT} (h : PW X e t) (m : ∀ σ H Q, t' σ H Q → t σ H Q) : PW X e t' := ⟨fun wh pn s σ H Q I q => h.run wh pn s σ H Q I (m _ _ _ q)⟩
theorem _root_.L2.PI.wk {tg e : Expr} {t t' : TI} (h : PI X tg e t) (m : ∀ σ H Q, t' σ H Q → t σ H Q) : PI X tg e t' := ⟨fun pn s σ H Q I q => h.run pn s σ H Q I (m _ _ _ q)⟩
theorem _root_.L2.PS.wk {st : Stmt} {t t' : TS} (h : PS X st t) (m : ∀ D σ H, t' D σ H → t D σ H) : PS X st t' := ⟨fun pn s σ H Q I q => h.run pn s σ H Q I (m _ _ _ q)⟩
theorem _root_.L2.PSs.wk {st : List Stmt} {t t' : TS} (h : PSs X st t) (m : ∀ D σ H, t' D σ H → t D σ H) : PSs X st t' := ⟨fun pn s σ H Q I q => h.run pn s σ H Q I (m _ _ _ q)⟩
/-! names and constants -/
def eVar (i : Nat) : EF := fun ρ => match ρ[i]? with | some (some (.dat d)) => some d | _ => none
def eOwn (i : Nat) : EF := fun ρ => match ρ[i]? with | some (some (.own ds)) => some (.list ds) | _ => none
theorem dE_var {e : Expr} {i : Nat} {μ : Bool} (h : PE X e (tVar i)) : PE X e (tD μ (eVar i)) := h.wk fun σ H Q q => by
  obtain ⟨M0, H0, ρ, d, R, e, q⟩ := q
  unfold eVar at e
  split at e
  · rename_i d' z
    cases e
    obtain ⟨v, a, b⟩ := R.dat i _ z
    exact ⟨v, a, q v H (Same.refl _) b.toMu⟩
  · cases e
theorem dE_own {e : Expr} {i : Nat} (h : PE X e (tVar i)) : PE X e (tD false (eOwn i)) := h.wk fun σ H Q q => by
  obtain ⟨M0, H0, ρ, d, R, e, q⟩ := q
  unfold eOwn at e
  split at e
  · rename_i ds z
    cases e
    obtain ⟨p, vs, a, b, c, l, r⟩ := R.own i _ z
    refine ⟨.ref p, a, q _ H (Same.refl _) (.lst b (fun m => ?_) l r.toMu)⟩
    rcases m with m | ⟨m, _⟩
    · exact R.dom p m c
    · cases m
  · cases e
def eC (d : D) : EF := fun _ => some d
def cD : V → Option D
  | .non => some .none
  | .bl b => some (.bool b)
  | .int i => some (.int i)
  | .str x => if x.length ≤ sizeLine then some (.str x) else none
  | _ => none
theorem cD.rp {M : Addr → Prop} {H : Hp} {v : V} {d : D} (h : cD v = some d) : Rp M H v d := by
  cases v with
  | str x =>
    by_cases e : x.length ≤ sizeLine
    · have h : (if x.length ≤ sizeLine then some (PyData.str x) else none) = some d := h
      rw [if_pos e] at h
      cases h
      exact .str x e
    · have h : (if x.length ≤ sizeLine then some (PyData.str x) else none) = some d := h
      rw [if_neg e] at h
      cases h
  | _ => cases h <;> constructor
theorem dE_c {e : Expr} {v : V} {d : D} {μ : Bool} (h : PE X e (tC v)) (hd : cD v = some d := by rfl) : PE X e (tD μ (eC d)) := h.wk fun σ H Q q => by
  obtain ⟨M0, H0, ρ, d', R, e, q⟩ := q
  cases e
  exact q v H (Same.refl _) (cD.rp hd)
/-- a list of one's own may be left out of what is told, where no list is in it -/
def eStr (f : EF) : EF := fun ρ => (f ρ).bind fun d => if nl d = true then some d else none
theorem dE_str {e : Expr} {f : EF} (h : PE X e (tD false f)) : PE X e (tD true (eStr f)) := h.wk fun σ H Q q => by
  obtain ⟨M0, H0, ρ, d, R, e, q⟩ := q
  obtain ⟨d', z, e⟩ := some_bind e
  split at e
  · rename_i hnl
    cases e
    refine ⟨M0, H0, ρ, _, R, z, fun v H' s r => q v H' s (r.nl hnl fun a m => ?_)⟩
    rcases m with m | ⟨_, i, ds, e1, e2⟩
    · exact .inl (.inl m)
    · obtain ⟨p, vs, x, y, _⟩ := (R.mono s).own i ds e1
      rw [e2] at x
      cases x
      exact .inr ⟨_, y⟩
  · cases e
/-! operators -/
def rD (g : D → D → Option D) : R2 := fun x y H Q => ∃ M a b d, Dom M H ∧ Rp M H x a ∧ Rp M H y b ∧ g a b = some d ∧ ∀ v H', Same H H' → Rp M H' v d → Q v H'
def e2 (g : D → D → Option D) (f1 f2 : EF) : EF := fun ρ => (f1 ρ).bind fun a => (f2 ρ).bind fun b => g a b
theorem dOp2 {g : D → D → Option D} {f1 f2 : EF} {μ : Bool} {σ : L2.St} {H : Hp} {Q : VK} (q : tD μ (e2 g f1 f2) σ H Q) : tOp (rD g) (tD μ f1) (tD μ f2) σ H Q := by
  obtain ⟨M0, H0, ρ, d, R, e, q⟩ := q
  obtain ⟨a, ea, e⟩ := some_bind e
  obtain ⟨b, eb, e⟩ := some_bind e
  exact ⟨M0, H0, ρ, a, R, ea, fun x H1 s1 r1 => ⟨M0, H0, ρ, b, R.mono s1, eb, fun y H2 s2 r2 => ⟨_, a, b, d, (R.mono (s1.trans s2)).domu μ, r1.mono (.of s2), r2, e, fun v H3 s3 r3 => q v H3 ((s1.trans s2).trans s3) r3⟩⟩⟩
theorem dE_op {a b : Expr} {op : Operator} {pos : Pos} {g : D → D → Option D} {f1 f2 : EF} {μ : Bool} (o : OpR X (binaryOp op) (rD g)) (ha : PE X a (tD μ f1)) (hb : PE X b (tD μ f2)) : PE X (.BinOp a op b pos) (tD μ (e2 g f1 f2)) := (pe_op o ha hb).wk fun _ _ _ q => dOp2 q
theorem dE_cmp {a b : Expr} {op : CmpOp} {pos : Pos} {g : D → D → Option D} {f1 f2 : EF} {μ : Bool} (o : OpR X (compareOp op) (rD g)) (ha : PE X a (tD μ f1)) (hb : PE X b (tD μ f2)) (hm : behindInMarks op b = false) : PE X (.Compare a [op] [b] pos) (tD μ (e2 g f1 f2)) := (pe_cmpR o ha hb hm).wk fun _ _ _ q => dOp2 q
def bB : D → Option Bool
  | .bool b => some b
  | _ => none
theorem Rp.ofB {M : Addr → Prop} {H : Hp} {v : V} {d : D} {b : Bool} (r : Rp M H v d) (h : bB d = some b) : v = .bl b := by
  cases r <;> cases h
  rfl
def oB (f : EF) : Rho → Option Bool := fun ρ => (f ρ).bind bB
theorem dTest {f : EF} {μ : Bool} {σ : L2.St} {H : Hp} {Q : Bool → Hp → Prop} (q : tT (oB f) σ H Q) : tD μ f σ H (fun x H1 => ∃ c, x = V.bl c ∧ Q c H1) := by
  obtain ⟨M0, H0, ρ, b, R, e, q⟩ := q
  obtain ⟨d, ed, e⟩ := some_bind e
  exact ⟨M0, H0, ρ, d, R, ed, fun v H1 s r => ⟨b, r.ofB e, q _ s⟩⟩
theorem dT_cmp {a b : Expr} {op : CmpOp} {pos : Pos} {g : D → D → Option D} {f1 f2 : EF} {μ : Bool} (o : OpR X (compareOp op) (rD g)) (ha : PE X a (tD μ f1)) (hb : PE X b (tD μ f2)) (hm : behindInMarks op b = false) : PT X (.Compare a [op] [b] pos) (tT (oB (e2 g f1 f2))) := (pt_cmpR o ha hb hm).wk fun σ H Q q => by
  have := dTest (μ := μ) q
  exact dOp2 this
theorem dT_val {e : Expr} {f : EF} {μ : Bool} (h : PE X e (tD μ f)) (ht : ∀ (whole : Sem Value), PySem.isTrue e X.env whole = (do
          let v ← whole
          standAt e.pos
          holding [v] (truthy v)) := by intro _; rfl) : PT X e (tT (oB f)) := (pt_val h ht).wk fun σ H Q q => dTest q
def oNot (f : Rho → Option Bool) : Rho → Option Bool := fun ρ => (f ρ).map (!·)
theorem dT_not {a : Expr} {pos : Pos} {f : Rho → Option Bool} (h : PT X a (tT f)) : PT X (.UnaryOp .Not a pos) (tT (oNot f)) := (pt_not h).wk fun σ H Q q => by
  obtain ⟨M0, H0, ρ, b, R, e, q⟩ := q
  unfold oNot at e
  cases z : f ρ with
  | none => rw [z] at e; cases e
  | some c => rw [z] at e; cases e; exact ⟨M0, H0, ρ, c, R, z, q⟩
def oAnd (f g : Rho → Option Bool) : Rho → Option Bool := fun ρ => (f ρ).bind fun b => if b = true then g ρ else some false
def oOr (f g : Rho → Option Bool) : Rho → Option Bool := fun ρ => (f ρ).bind fun b => if b = true then some true else g ρ
theorem dW_and1 {a : Expr} {pos : Pos} {f : Rho → Option Bool} (h : PT X a (tT f)) : PW X (.BoolOp .And [a] pos) (tT f) := pw_and1 h
theorem dW_or1 {a : Expr} {pos : Pos} {f : Rho → Option Bool} (h : PT X a (tT f)) : PW X (.BoolOp .Or [a] pos) (tT f) := pw_or1 h
theorem dW_and {a b : Expr} {rest : List Expr} {pos : Pos} {f g : Rho → Option Bool} (ha : PT X a (tT f)) (hb : PW X (.BoolOp .And (b :: rest) pos) (tT g)) : PW X (.BoolOp .And (a :: b :: rest) pos) (tT (oAnd f g)) := (pw_and ha hb).wk fun σ H Q q => by
  obtain ⟨M0, H0, ρ, b, R, e, q⟩ := q
  obtain ⟨c, ec, e⟩ := some_bind e
  refine ⟨M0, H0, ρ, c, R, ec, fun H1 s1 => ?_⟩
  cases c with
  | true => exact ⟨M0, H0, ρ, b, R.mono s1, e, fun H2 s2 => q H2 (s1.trans s2)⟩
  | false => cases e; exact q H1 s1
theorem dW_or {a b : Expr} {rest : List Expr} {pos : Pos} {f g : Rho → Option Bool} (ha : PT X a (tT f)) (hb : PW X (.BoolOp .Or (b :: rest) pos) (tT g)) : PW X (.BoolOp .Or (a :: b :: rest) pos) (tT (oOr f g)) := (pw_or ha hb).wk fun σ H Q q => by
  obtain ⟨M0, H0, ρ, b, R, e, q⟩ := q
  obtain ⟨c, ec, e⟩ := some_bind e
  refine ⟨M0, H0, ρ, c, R, ec, fun H1 s1 => ?_⟩
  cases c with
  | true => cases e; exact q H1 s1
  | false => exact ⟨M0, H0, ρ, b, R.mono s1, e, fun H2 s2 => q H2 (s1.trans s2)⟩
/-! and, or, not, if as values -/
def eAnd (f g : EF) : EF := fun ρ => ((f ρ).bind bB).bind fun b => if b = true then g ρ else some (.bool false)
def eOr (f g : EF) : EF := fun ρ => ((f ρ).bind bB).bind fun b => if b = true then some (.bool true) else g ρ
theorem dE_one {a : Expr} {op : BoolOp} {pos : Pos} {f : EF} {μ : Bool} (h : PE X a (tD μ f)) : PE X (.BoolOp op [a] pos) (tD μ f) := pe_one h
theorem dE_and {a b : Expr} {rest : List Expr} {pos : Pos} {f g : EF} {μ : Bool} (ha : PE X a (tD μ f)) (hb : PE X (.BoolOp .And (b :: rest) pos) (tD μ g)) : PE X (.BoolOp .And (a :: b :: rest) pos) (tD μ (eAnd f g)) := (pe_and ha hb).wk fun σ H Q q => by
  obtain ⟨M0, H0, ρ, d, R, e, q⟩ := q
  obtain ⟨c, ec, e⟩ := some_bind e
  obtain ⟨d1, e1, ec⟩ := some_bind ec
  refine ⟨M0, H0, ρ, d1, R, e1, fun v H1 s1 r1 => ⟨c, r1.ofB ec, ?_⟩⟩
  cases c with
  | true => exact ⟨M0, H0, ρ, d, R.mono s1, e, fun v H2 s2 => q v H2 (s1.trans s2)⟩
  | false => cases e; exact q _ H1 s1 (.bl _)
theorem dE_or {a b : Expr} {rest : List Expr} {pos : Pos} {f g : EF} {μ : Bool} (ha : PE X a (tD μ f)) (hb : PE X (.BoolOp .Or (b :: rest) pos) (tD μ g)) : PE X (.BoolOp .Or (a :: b :: rest) pos) (tD μ (eOr f g)) := (pe_or ha hb).wk fun σ H Q q => by
  obtain ⟨M0, H0, ρ, d, R, e, q⟩ := q
  obtain ⟨c, ec, e⟩ := some_bind e
  obtain ⟨d1, e1, ec⟩ := some_bind ec
  refine ⟨M0, H0, ρ, d1, R, e1, fun v H1 s1 r1 => ⟨c, r1.ofB ec, ?_⟩⟩
  cases c with
  | true => cases e; exact q _ H1 s1 (.bl _)
  | false => exact ⟨M0, H0, ρ, d, R.mono s1, e, fun v H2 s2 => q v H2 (s1.trans s2)⟩
def eNot (f : EF) : EF := fun ρ => ((f ρ).bind bB).map fun b => .bool (!b)
theorem dE_not {a : Expr} {pos : Pos} {f : EF} {μ : Bool} (h : PE X a (tD μ f)) : PE X (.UnaryOp .Not a pos) (tD μ (eNot f)) := (pe_not h).wk fun σ H Q q => by
  obtain ⟨M0, H0, ρ, d, R, e, q⟩ := q
  unfold eNot at e
  cases z : (f ρ).bind bB with
  | none => rw [z] at e; cases e
  | some c =>
    rw [z] at e
    cases e
    obtain ⟨d1, e1, ec⟩ := some_bind z
    exact ⟨M0, H0, ρ, d1, R, e1, fun v H1 s1 r1 => ⟨c, r1.ofB ec, q _ _ s1 (.bl _)⟩⟩
/-- truth of data -/
def trD : D → Option Bool
  | .none => some false
  | .bool b => some b
  | .int i => some (i != 0)
  | .tuple ds => some (!ds.isEmpty)
  | .list ds => some (!ds.isEmpty)
  | _ => none
theorem Rp.tru {K : PySem.W.Frag} {M : Addr → Prop} {H : Hp} {v : V} {d : D} {b : Bool} (r : Rp M H v d) (h : trD d = some b) : TruV K v H b := by
  cases r with
  | non => cases h; rfl
  | bl b => cases h; rfl
  | int i => cases h; rfl
  | str x hx => cases h
  | tup t n l a =>
    cases h
    refine .inr (.inl ⟨_, t.sq, ?_⟩)
    cases a <;> rfl
  | lst t n l a =>
    cases h
    refine .inl ⟨_, SqL.of t, ?_⟩
    cases a <;> rfl
  | dic t n => cases h
def eOrT (f g : EF) : EF := fun ρ => (f ρ).bind fun d => (trD d).bind fun b => if b = true then some d else g ρ
theorem dE_orT {a b : Expr} {rest : List Expr} {pos : Pos} {f g : EF} {μ : Bool} (ha : PE X a (tD μ f)) (hb : PE X (.BoolOp .Or (b :: rest) pos) (tD μ g)) : PE X (.BoolOp .Or (a :: b :: rest) pos) (tD μ (eOrT f g)) := (pe_orT ha hb).wk fun σ H Q q => by
  obtain ⟨M0, H0, ρ, d, R, e, q⟩ := q
  obtain ⟨d1, e1, e⟩ := some_bind e
  obtain ⟨c, ec, e⟩ := some_bind e
  refine ⟨M0, H0, ρ, d1, R, e1, fun v H1 s1 r1 => ⟨c, r1.tru ec, ?_⟩⟩
  cases c with
  | true => cases e; exact q _ H1 s1 r1
  | false => exact ⟨M0, H0, ρ, d, R.mono s1, e, fun v H2 s2 => q v H2 (s1.trans s2)⟩
def oTr (f : EF) : Rho → Option Bool := fun ρ => (f ρ).bind trD
theorem dT_truth {e : Expr} {f : EF} {μ : Bool} (h : PE X e (tD μ f)) (ht : ∀ (whole : Sem Value), PySem.isTrue e X.env whole = (do
          let v ← whole
          standAt e.pos
          holding [v] (truthy v)) := by intro _; rfl) : PT X e (tT (oTr f)) := (pt_truth h ht).wk fun σ H Q q => by
  obtain ⟨M0, H0, ρ, b, R, e, q⟩ := q
  obtain ⟨d1, e1, e⟩ := some_bind e
  exact ⟨M0, H0, ρ, d1, R, e1, fun v H1 s1 r1 => ⟨b, r1.tru e, q _ s1⟩⟩
def eIf (c : Rho → Option Bool) (f g : EF) : EF := fun ρ => (c ρ).bind fun b => if b = true then f ρ else g ρ
theorem dE_if {a b c : Expr} {pos : Pos} {t : Rho → Option Bool} {f g : EF} {μ : Bool} (hc : PT X c (tT t)) (ha : PE X a (tD μ f)) (hb : PE X b (tD μ g)) : PE X (c.IfExp a b pos) (tD μ (eIf t f g)) := (pe_ifExp hc ha hb).wk fun σ H Q q => by
  obtain ⟨M0, H0, ρ, d, R, e, q⟩ := q
  obtain ⟨c, ec, e⟩ := some_bind e
  refine ⟨M0, H0, ρ, c, R, ec, fun H1 s1 => ?_⟩
  cases c with
  | true => exact ⟨M0, H0, ρ, d, R.mono s1, e, fun v H2 s2 => q v H2 (s1.trans s2)⟩
  | false => exact ⟨M0, H0, ρ, d, R.mono s1, e, fun v H2 s2 => q v H2 (s1.trans s2)⟩
def eChain (g g' : D → D → Option D) (f1 f2 f3 : EF) : EF := fun ρ => (f1 ρ).bind fun a => (f2 ρ).bind fun b => ((g a b).bind bB).bind fun k => if k = true then (f3 ρ).bind fun c => g' b c else some (.bool false)
theorem dChain {g g' : D → D → Option D} {f1 f2 f3 : EF} {μ : Bool} {σ : L2.St} {H : Hp} {Q : VK} (q : tD μ (eChain g g' f1 f2 f3) σ H Q) : tChain (rD g) (rD g') (tD μ f1) (tD μ f2) (tD μ f3) σ H Q := by
  obtain ⟨M0, H0, ρ, d, R, e, q⟩ := q
  obtain ⟨a, ea, e⟩ := some_bind e
  obtain ⟨b, eb, e⟩ := some_bind e
  obtain ⟨k, ek, e⟩ := some_bind e
  obtain ⟨z, ez, ek⟩ := some_bind ek
  refine ⟨M0, H0, ρ, a, R, ea, fun x H1 s1 r1 => ⟨M0, H0, ρ, b, R.mono s1, eb, fun y H2 s2 r2 => ⟨_, a, b, z, (R.mono (s1.trans s2)).domu μ, r1.mono (.of s2), r2, ez, fun v H3 s3 r3 => ⟨k, r3.ofB ek, ?_⟩⟩⟩⟩
  have s13 := (s1.trans s2).trans s3
  cases k with
  | true =>
    obtain ⟨c, ec, e⟩ := some_bind e
    exact ⟨M0, H0, ρ, c, R.mono s13, ec, fun w H4 s4 r4 => ⟨_, b, c, d, (R.mono (s13.trans s4)).domu μ, r2.mono (.of (s3.trans s4)), r4, e, fun v H5 s5 r5 => q v H5 ((s13.trans s4).trans s5) r5⟩⟩
  | false => cases e; exact q _ _ s13 (.bl _)
theorem dE_chain {a b c : Expr} {op op' : CmpOp} {pos : Pos} {g g' : D → D → Option D} {f1 f2 f3 : EF} {μ : Bool} (o : OpR X (compareOp op) (rD g)) (o' : OpR X (compareOp op') (rD g')) (ha : PE X a (tD μ f1)) (hb : PE X b (tD μ f2)) (hc : PE X c (tD μ f3)) (hm : lastMarks [op, op'] [b, c] = false := by rfl) : PE X (a.Compare [op, op'] [b, c] pos) (tD μ (eChain g g' f1 f2 f3)) := (pe_chain o o' ha hb hc hm).wk fun _ _ _ q => dChain q
theorem dT_chain {a b c : Expr} {op op' : CmpOp} {pos : Pos} {g g' : D → D → Option D} {f1 f2 f3 : EF} {μ : Bool} (o : OpR X (compareOp op) (rD g)) (o' : OpR X (compareOp op') (rD g')) (ha : PE X a (tD μ f1)) (hb : PE X b (tD μ f2)) (hc : PE X c (tD μ f3)) (hm : lastMarks [op, op'] [b, c] = false := by rfl) : PT X (a.Compare [op, op'] [b, c] pos) (tT (oB (eChain g g' f1 f2 f3))) := (pt_chain o o' ha hb hc hm).wk fun _ _ _ q => by
  have := dTest (μ := μ) q
  exact dChain this
end
end Dl
namespace Dl
open PySem PySem.Spec PyProof.Rows L2 Rt
section
variable {X : Cx}
/-- a tuple that was made -/
theorem Inv.tupF {pn : List (Addr × Obj)} {σ : L2.St} {H : Hp} {s : Shared} {us : List Value} {xs : List V} (I : L2.Inv X pn σ H s) (r : Vals xs us) (hz : xs.length ≤ sizeLine) :
    L2.Inv X pn σ (upd H s.heap.objs.size (.frz { cls := .type "tuple", data := .seq us.toArray } (.tup xs))) { s with heap := s.heap.push { cls := .type "tuple", data := .seq us.toArray } } :=
  I.laid (t' := s.toks) (fun b o e => Heap.get?_push_of_some _ e) (Nat.le_refl _) (show ObjOk X.prog X.w _ _ _ (.frz { cls := .type "tuple", data := .seq us.toArray } (.tup xs)) from ⟨Heap.get?_push_size _ rfl, hz, us, r, IsTup.new _ _⟩)
theorem updF {H : Hp} {p : Addr} {xs : List V} {us : List Value} : TupF (upd H p (.frz { cls := .type "tuple", data := .seq us.toArray } (.tup xs))) p xs := ⟨_, upd_same, rfl⟩
/-- (a, b) -/
def tTupF (t : TA) : TE := fun σ H Q => t σ H fun xs H1 => xs.length ≤ sizeLine ∧ ∀ p H', H1 p = none → Same H1 H' → TupF H' p xs → Q (.ref p) H'
theorem pe_tupF {es : List Expr} {t : TA} {x1 : Nat} {pos : Pos} (h : PA X es t) : PE X (.Tuple es x1 pos) (tTupF t) :=
  ⟨fun pn s σ H Q I hq => wpAny_Tuple_spliced (thn (h.run pos pn s σ H _ I hq) fun us s1 ⟨xs, H1, I1, r, z, q⟩ => ⟨by rw [← r.length]; exact z, .ref s1.heap.objs.size, _, Inv.tupF I1 r z, rfl, q _ _ (I1.hok.fresh (Nat.le_refl _)) (smN (I1.hok.fresh (Nat.le_refl _))) updF⟩)⟩
/-- t + u -/
def rCatF : R2 := fun x y H Q => ∃ a b xs ys, x = .ref a ∧ y = .ref b ∧ TupF H a xs ∧ TupF H b ys ∧ xs.length + ys.length ≤ sizeLine ∧ ∀ p H', (H p = none ∨ p = a ∨ p = b) → Same H H' → TupF H' p (xs ++ ys) → Q (.ref p) H'
theorem op_catF : OpR X (binaryOp .Add) rCatF := by
  intro pins s σ H x y v u Q I rx ry h
  obtain ⟨a, b, xs, ys, rfl, rfl, ha, hb, hz, q⟩ := h
  by_cases e1 : xs = []
  · subst e1
    exact op_catA pins s σ H _ _ v u Q I rx ry ⟨a, b, [], ys, rfl, rfl, ha.sq, hb.sq, hz, fun e => q b H (.inr (.inr rfl)) (Same.refl H) hb, fun e _ => (e rfl).elim, fun e _ => (e rfl).elim⟩
  by_cases e2 : ys = []
  · subst e2
    refine op_catA pins s σ H _ _ v u Q I rx ry ⟨a, b, xs, [], rfl, rfl, ha.sq, hb.sq, hz, fun e => (e1 e).elim, fun _ _ => q a H (.inr (.inl rfl)) (Same.refl H) (by rw [List.append_nil]; exact ha), fun _ e => (e rfl).elim⟩
  cases rx
  cases ry
  obtain ⟨its, r1, p1, _⟩ := I.tuple (ha.sq (K := X.K))
  obtain ⟨its2, r2, p2, _⟩ := I.tuple (hb.sq (K := X.K))
  refine HT.cat_tup p1 p2 (fun z => e1 (r1.nil_iff.mp z)) (fun z => (e2 (r2.nil_iff.mp z)).elim) (fun z => ?_) (by rw [← r1.length, ← r2.length]; exact hz)
  have fr := I.hok.fresh (Nat.le_refl s.heap.objs.size)
  exact ⟨.ref s.heap.objs.size, _, Inv.tupF I (r1.append r2) (by rw [List.length_append]; exact hz), rfl, q _ _ (.inl fr) (smN fr) updF⟩
/-- t[lo:hi] -/
def rSlF : V → Option Int → Option Int → Hp → VK → Prop := fun x lo hi H Q => ∃ a xs, x = .ref a ∧ TupF H a xs ∧ ∀ p H', (H p = none ∨ p = a) → Same H H' → TupF H' p (cutV xs lo hi) → Q (.ref p) H'
theorem sl_tupF : SlR X rSlF := by
  intro pins s σ H x v vl vu lo hi sl Q I rx hs pl pu h
  obtain ⟨a, xs, rfl, ha, q⟩ := h
  by_cases hw : HT.sIx xs.length 0 lo = 0 ∧ HT.sIx xs.length xs.length hi = xs.length
  · refine sl_tupA pins s σ H _ v vl vu lo hi sl Q I rx hs pl pu ⟨a, xs, rfl, ha.sq, fun hw => q a H (.inr rfl) (Same.refl H) ?_, fun h => (h hw).elim⟩
    unfold cutV
    rw [hw.1, hw.2, List.drop_zero, Nat.sub_zero, List.take_length]
    exact ha
  cases rx
  obtain ⟨its, r, ht, hz⟩ := I.tuple (ha.sq (K := X.K))
  have hlen : its.toArray.size = xs.length := by rw [List.size_toArray]; exact r.length.symm
  have fr := I.hok.fresh (Nat.le_refl s.heap.objs.size)
  refine ⟨"tuple", "tuple.__getitem__", PyProof.Rows.slot_tuple_getitem.lookup, ht.typeIs, HT.getItem_tuple_cut ht hs pl pu (by rw [hlen]; exact hw) ?_ (by rw [hlen]; exact hz)⟩
  rw [hlen]
  exact ⟨.ref s.heap.objs.size, _, Inv.tupF I ((r.drop _).take _) (Nat.le_trans (cutV_length xs lo hi) hz), rfl, q _ _ (.inl fr) (smN fr) updF⟩
end
end Dl
namespace Dl
open PySem PySem.Spec PyProof.Rows L2 Rt
theorem iteS {α : Type} {c : Prop} [Decidable c] {a b : α} (h : (if c then some a else none) = some b) : c ∧ a = b := by
  by_cases e : c
  · rw [if_pos e] at h; cases h; exact ⟨e, rfl⟩
  · rw [if_neg e] at h; cases h
/-! what operators tell -/
def addD : D → D → Option D
  | .int i, .int j => some (.int (i + j))
  | .tuple a, .tuple b => if a.length + b.length ≤ sizeLine then some (.tuple (a ++ b)) else none
  | .list a, .list b => if a.length + b.length ≤ sizeLine then some (.list (a ++ b)) else none
  | .str a, .str b => if a.length + b.length ≤ sizeLine then some (.str (a ++ b)) else none
  | _, _ => none
def subD : D → D → Option D
  | .int i, .int j => some (.int (i - j))
  | _, _ => none
def mulD : D → D → Option D
  | .int i, .int j => if (-(2 ^ 64) < i ∧ i < 2 ^ 64) ∨ (-(2 ^ 64) < j ∧ j < 2 ^ 64) then some (.int (i * j)) else none
  | _, _ => none
def modD : D → D → Option D
  | .int i, .int j => if 0 < j then some (.int (i % j)) else none
  | _, _ => none
def fdivD : D → D → Option D
  | .int i, .int j => if 0 < j ∧ j < 2 ^ 60 then some (.int (i / j)) else none
  | _, _ => none
def powD : D → D → Option D
  | .int i, .int j => if 0 ≤ j ∧ j ≤ 1000000 ∧ i.natAbs < 2 ^ 64 then some (.int (i ^ j.toNat)) else none
  | _, _ => none
def ltD : D → D → Option D
  | .int i, .int j => some (.bool (decide (i < j)))
  | .str i, .str j => some (.bool (decide (i.cps.toList < j.cps.toList)))
  | _, _ => none
def leD : D → D → Option D
  | .int i, .int j => some (.bool (decide (i ≤ j)))
  | .str i, .str j => some (.bool (!decide (j.cps.toList < i.cps.toList)))
  | _, _ => none
def gtD : D → D → Option D
  | .int i, .int j => some (.bool (decide (i > j)))
  | _, _ => none
def geD : D → D → Option D
  | .int i, .int j => some (.bool (decide (i ≥ j)))
  | .str i, .str j => some (.bool (!decide (i.cps.toList < j.cps.toList)))
  | _, _ => none
/-- it can be compared and shown: no dict in it, not too deep -/
def okD (d : D) : Bool := !d.hasDict && SeqAt.shaped d
def eqD (a b : D) : Option D := if (okD a && okD b) = true then some (.bool (PyData.eqv a b)) else none
def neD (a b : D) : Option D := if (okD a && okD b) = true then some (.bool (!PyData.eqv a b)) else none
def isND : D → D → Option D
  | .none, .none => some (.bool true)
  | _, .none => some (.bool false)
  | _, _ => none
def noND : D → D → Option D
  | .none, .none => some (.bool false)
  | _, .none => some (.bool true)
  | _, _ => none
def inD : D → D → Option D
  | a, .tuple ds => if (okD a && okD (.tuple ds)) = true then some (.bool (ds.any fun z => PyData.eqv z a)) else none
  | a, .list ds => if (okD a && okD (.list ds)) = true then some (.bool (ds.any fun z => PyData.eqv z a)) else none
  | .str i, .str j => match i.cps.toList with
    | [c] => some (.bool (decide (c ∈ j.cps.toList)))
    | _ => none
  | _, _ => none
def ninD : D → D → Option D
  | a, .tuple ds => if (okD a && okD (.tuple ds)) = true then some (.bool (!ds.any fun z => PyData.eqv z a)) else none
  | a, .list ds => if (okD a && okD (.list ds)) = true then some (.bool (!ds.any fun z => PyData.eqv z a)) else none
  | .str i, .str j => match i.cps.toList with
    | [c] => some (.bool (!decide (c ∈ j.cps.toList)))
    | _ => none
  | _, _ => none
theorem one_sign {i : Str} {c : Nat} (h : i.cps.toList = [c]) : i = ⟨#[c]⟩ := by
  cases i with
  | mk a =>
    have h : a.toList = [c] := h
    congr
    rw [← Array.toArray_toList (xs := a), h]
theorem okD.parts {d : D} (h : okD d = true) : d.hasDict = false ∧ SeqAt.shaped d = true := by
  have := Bool.and_eq_true_iff.mp h
  exact ⟨by simpa using this.1, this.2⟩
section
variable {X : Cx}
theorem o_add : OpR X (binaryOp .Add) (rD addD) := by
  intro pn s σ H x y v u Q I rx ry h
  obtain ⟨M, a, b, d, dm, ra, rb, e, q⟩ := h
  cases ra <;> cases rb <;> try (cases e; done)
  · cases e
    exact op_add pn s σ H _ _ v u Q I rx ry ⟨_, _, rfl, rfl, q _ _ (Same.refl _) (.int _)⟩
  · obtain ⟨l, rfl⟩ := iteS e
    exact op_add_str pn s σ H _ _ v u Q I rx ry ⟨_, _, rfl, rfl, l, q _ _ (Same.refl _) (.str _ (by show (Array.size (_ ++ _)) ≤ _; rw [Array.size_append]; exact l))⟩
  · rename_i t1 n1 l1 r1 _ _ _ t2 n2 l2 r2
    obtain ⟨l, rfl⟩ := iteS e
    refine op_catF pn s σ H _ _ v u Q I rx ry ⟨_, _, _, _, rfl, rfl, t1, t2, by rw [r1.len, r2.len]; exact l, fun p H' hp sm t => q _ H' sm (.tup t (fun m => ?_) (by rw [List.length_append, r1.len, r2.len]; exact l) ((r1.mono (.of sm)).app (r2.mono (.of sm))))⟩
    rcases hp with hp | hp | hp
    · exact dm p m hp
    · rw [hp] at m; exact n1 m
    · rw [hp] at m; exact n2 m
  · rename_i t1 n1 l1 r1 _ _ _ t2 n2 l2 r2
    obtain ⟨l, rfl⟩ := iteS e
    exact op_cat pn s σ H _ _ v u Q I rx ry ⟨_, _, _, _, rfl, rfl, t1, t2, by rw [r1.len, r2.len]; exact l, fun p hp => q _ _ (smN hp) (.lst upd_same (fun m => dm p m hp) (by rw [List.length_append, r1.len, r2.len]; exact l) ((r1.mono (.of (smN hp))).app (r2.mono (.of (smN hp)))))⟩
theorem o_sub : OpR X (binaryOp .Sub) (rD subD) := by
  intro pn s σ H x y v u Q I rx ry h
  obtain ⟨M, a, b, d, dm, ra, rb, e, q⟩ := h
  cases ra <;> cases rb <;> try (cases e; done)
  cases e
  exact op_sub pn s σ H _ _ v u Q I rx ry ⟨_, _, rfl, rfl, q _ _ (Same.refl _) (.int _)⟩
theorem o_mul : OpR X (binaryOp .Mult) (rD mulD) := by
  intro pn s σ H x y v u Q I rx ry h
  obtain ⟨M, a, b, d, dm, ra, rb, e, q⟩ := h
  cases ra <;> cases rb <;> try (cases e; done)
  obtain ⟨l, rfl⟩ := iteS e
  exact op_mul pn s σ H _ _ v u Q I rx ry ⟨_, _, rfl, rfl, l, q _ _ (Same.refl _) (.int _)⟩
theorem o_mod : OpR X (binaryOp .Mod) (rD modD) := by
  intro pn s σ H x y v u Q I rx ry h
  obtain ⟨M, a, b, d, dm, ra, rb, e, q⟩ := h
  cases ra <;> cases rb <;> try (cases e; done)
  obtain ⟨l, rfl⟩ := iteS e
  exact op_mod pn s σ H _ _ v u Q I rx ry ⟨_, _, rfl, rfl, l, q _ _ (Same.refl _) (.int _)⟩
theorem o_fdiv : OpR X (binaryOp .FloorDiv) (rD fdivD) := by
  intro pn s σ H x y v u Q I rx ry h
  obtain ⟨M, a, b, d, dm, ra, rb, e, q⟩ := h
  cases ra <;> cases rb <;> try (cases e; done)
  obtain ⟨l, rfl⟩ := iteS e
  exact op_fdivW pn s σ H _ _ v u Q I rx ry ⟨_, _, rfl, rfl, wide_div (b := 60) l.1 (by omega) (by decide) (by decide), q _ _ (Same.refl _) (.int _)⟩
theorem o_pow : OpR X (binaryOp .Pow) (rD powD) := by
  intro pn s σ H x y v u Q I rx ry h
  obtain ⟨M, a, b, d, dm, ra, rb, e, q⟩ := h
  cases ra <;> cases rb <;> try (cases e; done)
  obtain ⟨l, rfl⟩ := iteS e
  exact op_pow pn s σ H _ _ v u Q I rx ry ⟨_, _, rfl, rfl, l, q _ _ (Same.refl _) (.int _)⟩
theorem o_lt : OpR X (compareOp .Lt) (rD ltD) := by
  intro pn s σ H x y v u Q I rx ry h
  obtain ⟨M, a, b, d, dm, ra, rb, e, q⟩ := h
  cases ra <;> cases rb <;> try (cases e; done)
  · cases e
    exact op_lt pn s σ H _ _ v u Q I rx ry ⟨_, _, rfl, rfl, q _ _ (Same.refl _) (.bl _)⟩
  · cases e
    exact op_lt_str pn s σ H _ _ v u Q I rx ry ⟨_, _, rfl, rfl, q _ _ (Same.refl _) (.bl _)⟩
theorem o_le : OpR X (compareOp .LtE) (rD leD) := by
  intro pn s σ H x y v u Q I rx ry h
  obtain ⟨M, a, b, d, dm, ra, rb, e, q⟩ := h
  cases ra <;> cases rb <;> try (cases e; done)
  · cases e
    exact op_le pn s σ H _ _ v u Q I rx ry ⟨_, _, rfl, rfl, q _ _ (Same.refl _) (.bl _)⟩
  · cases e
    exact op_le_str pn s σ H _ _ v u Q I rx ry ⟨_, _, rfl, rfl, q _ _ (Same.refl _) (.bl _)⟩
theorem o_gt : OpR X (compareOp .Gt) (rD gtD) := by
  intro pn s σ H x y v u Q I rx ry h
  obtain ⟨M, a, b, d, dm, ra, rb, e, q⟩ := h
  cases ra <;> cases rb <;> try (cases e; done)
  cases e
  exact op_gt pn s σ H _ _ v u Q I rx ry ⟨_, _, rfl, rfl, q _ _ (Same.refl _) (.bl _)⟩
theorem o_ge : OpR X (compareOp .GtE) (rD geD) := by
  intro pn s σ H x y v u Q I rx ry h
  obtain ⟨M, a, b, d, dm, ra, rb, e, q⟩ := h
  cases ra <;> cases rb <;> try (cases e; done)
  · cases e
    exact op_ge pn s σ H _ _ v u Q I rx ry ⟨_, _, rfl, rfl, q _ _ (Same.refl _) (.bl _)⟩
  · cases e
    exact op_ge_str pn s σ H _ _ v u Q I rx ry ⟨_, _, rfl, rfl, q _ _ (Same.refl _) (.bl _)⟩
theorem o_eq (hu : X.A.units + 64 < cLine) : OpR X (compareOp .Eq) (rD eqD) := by
  intro pn s σ H x y v u Q I rx ry h
  obtain ⟨M, a, b, d, dm, ra, rb, e, q⟩ := h
  obtain ⟨l, rfl⟩ := iteS e
  have l := Bool.and_eq_true_iff.mp l
  exact op_eqD hu pn s σ H _ _ v u Q I rx ry ⟨a, b, ra.dp (okD.parts l.1).1, rb.dp (okD.parts l.2).1, (okD.parts l.1).2, (okD.parts l.2).2, q _ _ (Same.refl _) (.bl _)⟩
theorem o_ne (hu : X.A.units + 64 < cLine) : OpR X (compareOp .NotEq) (rD neD) := by
  intro pn s σ H x y v u Q I rx ry h
  obtain ⟨M, a, b, d, dm, ra, rb, e, q⟩ := h
  obtain ⟨l, rfl⟩ := iteS e
  have l := Bool.and_eq_true_iff.mp l
  exact op_neD hu pn s σ H _ _ v u Q I rx ry ⟨a, b, ra.dp (okD.parts l.1).1, rb.dp (okD.parts l.2).1, (okD.parts l.1).2, (okD.parts l.2).2, q _ _ (Same.refl _) (.bl _)⟩
theorem o_is : OpR X (compareOp .Is) (rD isND) := by
  intro pn s σ H x y v u Q I rx ry h
  obtain ⟨M, a, b, d, dm, ra, rb, e, q⟩ := h
  cases rb <;> (try (cases ra <;> cases e; done))
  refine op_isN pn s σ H _ _ v u Q I rx ry ⟨rfl, ?_⟩
  cases ra <;> cases e <;> exact q _ _ (Same.refl _) (.bl _)
theorem o_isnot : OpR X (compareOp .IsNot) (rD noND) := by
  intro pn s σ H x y v u Q I rx ry h
  obtain ⟨M, a, b, d, dm, ra, rb, e, q⟩ := h
  cases rb <;> (try (cases ra <;> cases e; done))
  refine op_notN pn s σ H _ _ v u Q I rx ry ⟨rfl, ?_⟩
  cases ra <;> cases e <;> exact q _ _ (Same.refl _) (.bl _)
theorem o_in (hu : X.A.units + 65 < cLine) : OpR X (compareOp .In) (rD inD) := by
  intro pn s σ H x y v u Q I rx ry h
  obtain ⟨M, a, b, d, dm, ra, rb, e, q⟩ := h
  cases rb <;> (try (cases ra <;> cases e; done))
  · cases ra <;> try (cases e; done)
    rename_i i hi
    simp only [inD] at e
    split at e
    · rename_i c hc
      cases e
      exact op_in_sign pn s σ H _ _ v u Q I rx ry ⟨c, _, by rw [one_sign hc], rfl, q _ _ (Same.refl _) (.bl _)⟩
    · cases e
  · rename_i xs ds t n l r
    obtain ⟨l2, rfl⟩ := iteS (show (if (okD a && okD (.tuple ds)) = true then some (PyData.bool (ds.any fun z => PyData.eqv z a)) else none) = some d by cases a <;> exact e)
    have l2 := Bool.and_eq_true_iff.mp l2
    have rb : Rp M H (.ref _) (.tuple ds) := .tup t n l r
    obtain ⟨as, r1⟩ := Dp.reads I _ _ v (ra.dp (okD.parts l2.1).1) rx
    obtain ⟨bs, r2⟩ := Dp.reads I _ _ u (rb.dp (okD.parts l2.2).1) ry
    exact SeqAt.in_tuple_reads r2 r1 (SeqAt.canLay_of_shaped (okD.parts l2.2).2) (SeqAt.canLay_of_shaped (okD.parts l2.1).2) (room_in_shaped (okD.parts l2.1).2 hu) ⟨.bl _, H, I, rfl, q _ _ (Same.refl _) (.bl _)⟩
  · rename_i xs ds t n l r
    obtain ⟨l2, rfl⟩ := iteS (show (if (okD a && okD (.list ds)) = true then some (PyData.bool (ds.any fun z => PyData.eqv z a)) else none) = some d by cases a <;> exact e)
    have l2 := Bool.and_eq_true_iff.mp l2
    have rb : Rp M H (.ref _) (.list ds) := .lst t n l r
    exact op_inD hu pn s σ H _ _ v u Q I rx ry ⟨a, ds, ra.dp (okD.parts l2.1).1, rb.dp (okD.parts l2.2).1, (okD.parts l2.1).2, (okD.parts l2.2).2, q _ _ (Same.refl _) (.bl _)⟩
theorem o_nin (hu : X.A.units + 65 < cLine) : OpR X (compareOp .NotIn) (rD ninD) := by
  intro pn s σ H x y v u Q I rx ry h
  obtain ⟨M, a, b, d, dm, ra, rb, e, q⟩ := h
  cases rb <;> (try (cases ra <;> cases e; done))
  · cases ra <;> try (cases e; done)
    rename_i i hi
    simp only [ninD] at e
    split at e
    · rename_i c hc
      cases e
      exact op_notIn_sign pn s σ H _ _ v u Q I rx ry ⟨c, _, by rw [one_sign hc], rfl, q _ _ (Same.refl _) (.bl _)⟩
    · cases e
  · rename_i xs ds t n l r
    obtain ⟨l2, rfl⟩ := iteS (show (if (okD a && okD (.tuple ds)) = true then some (PyData.bool (!ds.any fun z => PyData.eqv z a)) else none) = some d by cases a <;> exact e)
    have l2 := Bool.and_eq_true_iff.mp l2
    have rb : Rp M H (.ref _) (.tuple ds) := .tup t n l r
    obtain ⟨as, r1⟩ := Dp.reads I _ _ v (ra.dp (okD.parts l2.1).1) rx
    obtain ⟨bs, r2⟩ := Dp.reads I _ _ u (rb.dp (okD.parts l2.2).1) ry
    exact SeqAt.notIn_tuple_reads r2 r1 (SeqAt.canLay_of_shaped (okD.parts l2.2).2) (SeqAt.canLay_of_shaped (okD.parts l2.1).2) (room_in_shaped (okD.parts l2.1).2 hu) ⟨.bl _, H, I, rfl, q _ _ (Same.refl _) (.bl _)⟩
  · rename_i xs ds t n l r
    obtain ⟨l2, rfl⟩ := iteS (show (if (okD a && okD (.list ds)) = true then some (PyData.bool (!ds.any fun z => PyData.eqv z a)) else none) = some d by cases a <;> exact e)
    have l2 := Bool.and_eq_true_iff.mp l2
    have rb : Rp M H (.ref _) (.list ds) := .lst t n l r
    exact op_notInD hu pn s σ H _ _ v u Q I rx ry ⟨a, ds, ra.dp (okD.parts l2.1).1, rb.dp (okD.parts l2.2).1, (okD.parts l2.1).2, (okD.parts l2.2).2, q _ _ (Same.refl _) (.bl _)⟩
def negD : D → Option D
  | .int i => some (.int (-i))
  | _ => none
def e1 (g : D → Option D) (f : EF) : EF := fun ρ => (f ρ).bind g
theorem dE_neg {a : Expr} {pos : Pos} {f : EF} {μ : Bool} (h : PE X a (tD μ f)) : PE X (.UnaryOp .USub a pos) (tD μ (e1 negD f)) := (pe_un un_neg h).wk fun σ H Q q => by
  obtain ⟨M0, H0, ρ, d, R, e, q⟩ := q
  obtain ⟨d1, e1, e⟩ := some_bind e
  refine ⟨M0, H0, ρ, d1, R, e1, fun v H1 s1 r1 => ?_⟩
  cases r1 <;> cases e
  exact ⟨_, rfl, q _ _ s1 (.int _)⟩
/-! arguments, displays, subscripts, slices -/
def aNil : Rho → Option (List D) := fun _ => some []
def aCons (f : EF) (g : Rho → Option (List D)) : Rho → Option (List D) := fun ρ => (f ρ).bind fun d => (g ρ).map fun ds => d :: ds
theorem dA_nil {μ : Bool} : PA X [] (tA μ aNil) := PA.weak pa_nil fun σ H Q q => by
  obtain ⟨M0, H0, ρ, ds, R, e, q⟩ := q
  cases e
  exact ⟨Q, q [] H (Same.refl _) .nil, fun _ _ z => z⟩
theorem dA_cons {e : Expr} {es : List Expr} {f : EF} {g : Rho → Option (List D)} {μ : Bool} (h : PE X e (tD μ f)) (hs : PA X es (tA μ g)) (he : starEach (e :: es) X.env = (false, eval e X.env) :: starEach es X.env := by rfl) : PA X (e :: es) (tA μ (aCons f g)) := PA.weak (pa_cons h hs he) fun σ H Q q => by
  obtain ⟨M0, H0, ρ, ds, R, e, q⟩ := q
  obtain ⟨d, ed, e⟩ := some_bind e
  cases z : g ρ with
  | none => rw [z] at e; cases e
  | some r =>
    rw [z] at e
    cases e
    exact ⟨Q, ⟨M0, H0, ρ, d, R, ed, fun v H1 s1 r1 => ⟨M0, H0, ρ, r, R.mono s1, z, fun vs H2 s2 r2 => q _ H2 (s1.trans s2) (.cons (r1.mono (.of s2)) r2)⟩⟩, fun _ _ z => z⟩
def eTup (g : Rho → Option (List D)) : EF := fun ρ => (g ρ).bind fun ds => if ds.length ≤ sizeLine then some (.tuple ds) else none
def eLst (g : Rho → Option (List D)) : EF := fun ρ => (g ρ).bind fun ds => if ds.length ≤ sizeLine then some (.list ds) else none
theorem dE_tup {es : List Expr} {x1 : Nat} {pos : Pos} {g : Rho → Option (List D)} {μ : Bool} (h : PA X es (tA μ g)) : PE X (.Tuple es x1 pos) (tD μ (eTup g)) := (pe_tupF h).wk fun σ H Q q => by
  obtain ⟨M0, H0, ρ, d, R, e, q⟩ := q
  obtain ⟨ds, ed, e⟩ := some_bind e
  obtain ⟨l, rfl⟩ := iteS e
  exact ⟨M0, H0, ρ, ds, R, ed, fun vs H1 s1 r1 => ⟨by rw [r1.len]; exact l, fun p H2 np s2 t => q _ H2 (s1.trans s2) (.tup t ((R.mono s1).domu μ |>.not np) (by rw [r1.len]; exact l) (r1.mono (.of s2)))⟩⟩
theorem dE_lst {es : List Expr} {pos : Pos} {g : Rho → Option (List D)} {μ : Bool} (h : PA X es (tA μ g)) : PE X (.List es pos) (tD μ (eLst g)) := (pe_lst h).wk fun σ H Q q => by
  obtain ⟨M0, H0, ρ, d, R, e, q⟩ := q
  obtain ⟨ds, ed, e⟩ := some_bind e
  obtain ⟨l, rfl⟩ := iteS e
  exact ⟨M0, H0, ρ, ds, R, ed, fun vs H1 s1 r1 => ⟨by rw [r1.len]; exact l, fun p np => q _ _ (s1.trans (smN np)) (.lst upd_same ((R.mono s1).domu μ |>.not np) (by rw [r1.len]; exact l) (r1.mono (.of (smN np))))⟩⟩
def ixD : D → D → Option D
  | .tuple ds, .int i => atI ds i
  | .list ds, .int i => atI ds i
  | _, _ => none
theorem RpAll.atI {M : Addr → Prop} {H : Hp} {vs : List V} {ds : List D} {i : Int} {d : D} (h : RpAll M H vs ds) (e : L2.atI ds i = some d) : ∃ v, L2.atI vs i = some v ∧ Rp M H v d := by
  unfold L2.atI at e ⊢
  rw [h.len]
  obtain ⟨j, ej, e⟩ := some_bind e
  obtain ⟨v, a, b⟩ := h.get e
  exact ⟨v, by rw [ej]; exact a, b⟩
theorem i_ix : IxR X (rD ixD) := by
  intro ve sl pn s σ H x y v u Q I rx ry h hs
  obtain ⟨M, a, b, d, dm, ra, rb, e, q⟩ := h
  cases ra <;> cases rb <;> try (cases e; done)
  · rename_i t n l r i
    obtain ⟨w, ew, rw⟩ := r.atI (show L2.atI _ _ = some d from e)
    exact ix_tup ve sl pn s σ H _ _ v u Q I rx ry ⟨_, _, i, w, rfl, rfl, t.sq, ew, q w H (Same.refl _) rw⟩ hs
  · rename_i t n l r i
    obtain ⟨w, ew, rw⟩ := r.atI (show L2.atI _ _ = some d from e)
    exact ix_list ve sl pn s σ H _ _ v u Q I rx ry ⟨_, _, i, w, rfl, rfl, SqL.of t, ew, q w H (Same.refl _) rw⟩ hs
theorem dE_ix {a b : Expr} {pos : Pos} {f1 f2 : EF} {μ : Bool} (ha : PE X a (tD μ f1)) (hb : PE X b (tD μ f2)) (hp : PlainIx b := by exact fun _ _ => rfl) : PE X (.Subscript a b pos) (tD μ (e2 ixD f1 f2)) := (pe_ix i_ix ha hb hp).wk fun _ _ _ q => dOp2 q
/-- slices -/
def cutD {α : Type} (xs : List α) (lo hi : Option Int) : List α := (xs.drop (HT.sIx xs.length 0 lo)).take (HT.sIx xs.length xs.length hi - HT.sIx xs.length 0 lo)
def slD : D → Option Int → Option Int → Option D
  | .tuple ds, lo, hi => some (.tuple (cutD ds lo hi))
  | .list ds, lo, hi => some (.list (cutD ds lo hi))
  | _, _, _ => none
theorem RpAll.cut {M : Addr → Prop} {H : Hp} {vs : List V} {ds : List D} (h : RpAll M H vs ds) (lo hi : Option Int) : RpAll M H (cutV vs lo hi) (cutD ds lo hi) := by
  unfold cutV cutD
  rw [h.len]
  exact (h.drop _).take _
def rSlD : V → Option Int → Option Int → Hp → VK → Prop := fun x lo hi H Q => ∃ M a d, Dom M H ∧ Rp M H x a ∧ slD a lo hi = some d ∧ ∀ v H', Same H H' → Rp M H' v d → Q v H'
theorem s_sl : SlR X rSlD := by
  intro pn s σ H x v vl vu lo hi sl Q I rx hs pl pu h
  obtain ⟨M, a, d, dm, ra, e, q⟩ := h
  cases ra <;> try (cases e; done)
  · rename_i a t n l r
    cases e
    refine sl_tupF pn s σ H _ v vl vu lo hi sl Q I rx hs pl pu ⟨_, _, rfl, t, fun p H' hp sm t' => q _ H' sm (.tup t' (fun m => ?_) (Nat.le_trans (cutV_length _ _ _) l) ((r.mono (.of sm)).cut _ _))⟩
    rcases hp with hp | hp
    · exact dm p m hp
    · rw [hp] at m; exact n m
  · rename_i a t n l r
    cases e
    exact sl_list pn s σ H _ v vl vu lo hi sl Q I rx hs pl pu ⟨_, _, rfl, SqL.of t, fun p hp => q _ _ (smN hp) (.lst upd_same (fun m => dm p m hp) (Nat.le_trans (cutV_length _ _ _) l) ((r.mono (.of (smN hp))).cut _ _))⟩
def tPo (f : Rho → Option (Option Int)) : TO := fun σ H Q => ∃ M0 H0 ρ o, Rs M0 H0 H σ ρ ∧ f ρ = some o ∧ ∀ H', Same H H' → Q o H'
def pNone : Rho → Option (Option Int) := fun _ => some none
def pSome (f : EF) : Rho → Option (Option Int) := fun ρ => (f ρ).bind fun d => match d with | .int i => some (some i) | _ => none
theorem _root_.L2.PO.wk {e : Option Expr} {t t' : TO} (h : PO X e t) (m : ∀ σ H Q, t' σ H Q → t σ H Q) : PO X e t' := ⟨fun pn s σ H Q I q => h.run pn s σ H Q I (m _ _ _ q)⟩
theorem dO_none : PO X none (tPo pNone) := po_none.wk fun σ H Q q => by
  obtain ⟨M0, H0, ρ, o, R, e, q⟩ := q
  cases e
  exact q _ (Same.refl _)
theorem dO_some {e : Expr} {f : EF} {μ : Bool} (h : PE X e (tD μ f)) : PO X (some e) (tPo (pSome f)) := (po_some h).wk fun σ H Q q => by
  obtain ⟨M0, H0, ρ, o, R, e, q⟩ := q
  obtain ⟨d, ed, e⟩ := some_bind e
  refine ⟨M0, H0, ρ, d, R, ed, fun v H1 s1 r1 => ?_⟩
  cases r1 <;> cases e
  exact ⟨_, rfl, q _ s1⟩
def eSl (f : EF) (lo hi : Rho → Option (Option Int)) : EF := fun ρ => (f ρ).bind fun d => (lo ρ).bind fun l => (hi ρ).bind fun h => slD d l h
theorem dE_sl {e : Expr} {lo hi : Option Expr} {pos p2 : Pos} {f : EF} {g h : Rho → Option (Option Int)} {μ : Bool} (he : PE X e (tD μ f)) (hl : PO X lo (tPo g)) (hh : PO X hi (tPo h)) : PE X (.Subscript e (.Slice lo hi none p2) pos) (tD μ (eSl f g h)) := (pe_slice s_sl he hl hh).wk fun σ H Q q => by
  obtain ⟨M0, H0, ρ, d, R, e, q⟩ := q
  obtain ⟨d1, e1, e⟩ := some_bind e
  obtain ⟨l, el, e⟩ := some_bind e
  obtain ⟨u, eu, e⟩ := some_bind e
  exact ⟨M0, H0, ρ, d1, R, e1, fun v H1 s1 r1 => ⟨M0, H0, ρ, l, R.mono s1, el, fun H2 s2 => ⟨M0, H0, ρ, u, R.mono (s1.trans s2), eu, fun H3 s3 => ⟨_, d1, d, (R.mono ((s1.trans s2).trans s3)).domu μ, r1.mono (.of (s2.trans s3)), e, fun v H4 s4 r4 => q v H4 (((s1.trans s2).trans s3).trans s4) r4⟩⟩⟩⟩
/-! calls -/
def rC (g : List D → Option D) : List V → Hp → VK → Prop := fun xs H Q => ∃ M ds d, Dom M H ∧ RpAll M H xs ds ∧ g ds = some d ∧ ∀ v H', Same H H' → Rp M H' v d → Q v H'
def eCall (g : List D → Option D) (f : Rho → Option (List D)) : EF := fun ρ => (f ρ).bind g
theorem dCall {g : List D → Option D} {f : Rho → Option (List D)} {μ : Bool} {σ : L2.St} {H : Hp} {Q : VK} (q : tD μ (eCall g f) σ H Q) : tCB (rC g) (tA μ f) σ H Q := by
  obtain ⟨M0, H0, ρ, d, R, e, q⟩ := q
  obtain ⟨ds, ed, e⟩ := some_bind e
  exact ⟨M0, H0, ρ, ds, R, ed, fun vs H1 s1 r1 => ⟨_, ds, d, (R.mono s1).domu μ, r1, e, fun v H2 s2 r2 => q v H2 (s1.trans s2) r2⟩⟩
def spD (n : Nat) (g : List D → Option D) : Sp := fun vs H Q _ => ∃ M ds d, Dom M H ∧ RpAll M H vs ds ∧ ds.length = n ∧ g ds = some d ∧ ∀ v H', Same H H' → Rp M H' v d → Q v H'
def gN (n : Nat) (g : List D → Option D) : List D → Option D := fun ds => if ds.length = n then g ds else none
theorem dE_cl {k n : Nat} {x : Str} {ps : List Str} {g : List D → Option D} {p pos : Pos} {e : Expr} {es : List Expr} {f : Rho → Option (List D)} {μ : Bool} (C : Cl X.prog X.w X.K X.mg X.base k x ps (spD n g)) (hr : Room k X.A) (hg : Gl X x) (ha : PA X (e :: es) (tA μ f))
    (hdb : (x == ("__debug__" : Str)) = false := by decide) (he : starEach (e :: es) X.env = (false, eval e X.env) :: starEach es X.env := by rfl) (hpl : (backTo pos (starEach es X.env)).any (·.1) = false := by rfl) :
    PE X (.Call (.Name x p) (e :: es) [] pos) (tD μ (eCall (gN n g) f)) := (pe_cl C hr hg ha hdb he hpl).wk fun σ H Q q => by
  obtain ⟨M0, H0, ρ, d, R, e, q⟩ := q
  obtain ⟨ds, ed, e⟩ := some_bind e
  refine ⟨M0, H0, ρ, ds, R, ed, fun vs H1 s1 r1 => ?_⟩
  unfold gN at e
  split at e
  · rename_i l
    rw [List.append_nil]
    exact ⟨_, ds, d, (R.mono s1).domu μ, r1, l, e, fun v H2 s2 r2 => q v H2 (s1.trans s2) r2⟩
  · cases e
end
end Dl
namespace Dl
open PySem PySem.Spec PyProof.Rows L2 Rt
/-! ### targets -/
mutual
inductive Pat
  | nm (i : Nat)
  | tp (ps : Pats)
inductive Pats
  | nil
  | cons (p : Pat) (ps : Pats)
end
def Pats.len : Pats → Nat
  | .nil => 0
  | .cons _ ps => ps.len + 1
mutual
def gP (K : PySem.W.Frag) : Pat → TG
  | .nm i => gName i
  | .tp ps => gTup K ps.len (gPs K ps)
def gPs (K : PySem.W.Frag) : Pats → TGs
  | .nil => gNil
  | .cons p ps => gCons (gP K p) (gPs K ps)
end
mutual
def bindP : Pat → D → Rho → Option Rho
  | .nm i, d, ρ => if i < ρ.length then some (ρ.set i (some (.dat d))) else none
  | .tp ps, .tuple ds, ρ => bindPs ps ds ρ
  | .tp _, _, _ => none
def bindPs : Pats → List D → Rho → Option Rho
  | .nil, [], ρ => some ρ
  | .cons p ps, d :: ds, ρ => (bindP p d ρ).bind fun ρ1 => bindPs ps ds ρ1
  | _, _, _ => none
end
mutual
def slP : Pat → List Nat
  | .nm i => [i]
  | .tp ps => slPs ps
def slPs : Pats → List Nat
  | .nil => []
  | .cons p ps => slP p ++ slPs ps
end
theorem set_get {α : Type} {xs : List α} {i j : Nat} {x y : α} (h : (xs.set i x)[j]? = some y) : (i = j ∧ y = x) ∨ (i ≠ j ∧ xs[j]? = some y) := by
  rw [List.getElem?_set] at h
  by_cases e : i = j
  · rw [if_pos e] at h
    split at h
    · cases h; exact .inl ⟨e, rfl⟩
    · cases h
  · rw [if_neg e] at h; exact .inr ⟨e, h⟩
theorem set_same {α : Type} {xs : List α} {i : Nat} {x : α} (h : i < xs.length) : (xs.set i x)[i]? = some x := by
  rw [List.getElem?_set, if_pos rfl, if_pos h]
theorem set_other {α : Type} {xs : List α} {i j : Nat} {x : α} (h : i ≠ j) : (xs.set i x)[j]? = xs[j]? := by
  rw [List.getElem?_set, if_neg h]
theorem Mu.shrink {M0 : Addr → Prop} {σ : L2.St} {ρ : Rho} {i : Nat} {w : Option V} {lv : Option LV} (h : ∀ ds, lv ≠ some (.own ds)) : ∀ a, Mu true M0 (σ.set i w) (ρ.set i lv) a → Mu true M0 σ ρ a := fun a m => by
  rcases m with m | ⟨_, j, ds, e1, e2⟩
  · exact .inl m
  · rcases set_get e1 with ⟨_, e⟩ | ⟨n, e⟩
    · exact (h ds e.symm).elim
    · rw [set_other n] at e2
      exact .inr ⟨rfl, j, ds, e, e2⟩
theorem Rs.set {M0 : Addr → Prop} {H0 H : Hp} {σ : L2.St} {ρ : Rho} {i : Nat} {v : V} {d : D} (R : Rs M0 H0 H σ ρ) (r : Rp (Mu true M0 σ ρ) H v d) : Rs M0 H0 H (σ.set i (some v)) (ρ.set i (some (.dat d))) := by
  have sh : ∀ a, Mu true M0 (σ.set i (some v)) (ρ.set i (some (.dat d))) a → Mu true M0 σ ρ a ∨ H a = none := fun a m => .inl (Mu.shrink (fun ds e => by cases e) a m)
  refine ⟨R.sm, R.dom, by rw [List.length_set, List.length_set]; exact R.len, fun j d' e => ?_, fun j ds e => ?_, fun j w e => ?_, fun j k a b p e1 e2 e3 e4 => ?_⟩
  · rcases set_get e with ⟨rfl, e9⟩ | ⟨n, e⟩
    · cases e9
      have hl : i < ρ.length := by
        have := (List.getElem?_eq_some_iff.mp (by assumption : (ρ.set i _)[i]? = _)).1
        rwa [List.length_set] at this
      exact ⟨v, set_same (by rw [← R.len]; exact hl), r.reM sh⟩
    · obtain ⟨w, x, y⟩ := R.dat j d' e
      exact ⟨w, by rw [set_other n]; exact x, y.reM sh⟩
  · rcases set_get e with ⟨rfl, e9⟩ | ⟨n, e⟩
    · cases e9
    · obtain ⟨p, vs, x, y, z, l, w⟩ := R.own j ds e
      exact ⟨p, vs, by rw [set_other n]; exact x, y, z, l, w.reM sh⟩
  · rcases set_get e with ⟨rfl, e9⟩ | ⟨n, e⟩
    · cases e9
    · rw [set_other n]; exact R.raw j w e
  · rcases set_get e1 with ⟨rfl, e⟩ | ⟨n1, f1⟩
    · cases e
    rcases set_get e2 with ⟨rfl, e⟩ | ⟨n2, f2⟩
    · cases e
    rw [set_other n1] at e3
    rw [set_other n2] at e4
    exact R.inj j k a b p f1 f2 e3 e4
theorem Rs.clear {M0 : Addr → Prop} {H0 H : Hp} {σ : L2.St} {ρ : Rho} (i : Nat) (w : Option V) (R : Rs M0 H0 H σ ρ) : Rs M0 H0 H (σ.set i w) (ρ.set i none) := by
  have sh : ∀ a, Mu true M0 (σ.set i w) (ρ.set i none) a → Mu true M0 σ ρ a ∨ H a = none := fun a m => .inl (Mu.shrink (fun ds e => by cases e) a m)
  refine ⟨R.sm, R.dom, by rw [List.length_set, List.length_set]; exact R.len, fun j d' e => ?_, fun j ds e => ?_, fun j w e => ?_, fun j k a b p e1 e2 e3 e4 => ?_⟩
  · rcases set_get e with ⟨rfl, e9⟩ | ⟨n, e⟩
    · cases e9
    · obtain ⟨w, x, y⟩ := R.dat j d' e
      exact ⟨w, by rw [set_other n]; exact x, y.reM sh⟩
  · rcases set_get e with ⟨rfl, e9⟩ | ⟨n, e⟩
    · cases e9
    · obtain ⟨p, vs, x, y, z, l, w⟩ := R.own j ds e
      exact ⟨p, vs, by rw [set_other n]; exact x, y, z, l, w.reM sh⟩
  · rcases set_get e with ⟨rfl, e9⟩ | ⟨n, e⟩
    · cases e9
    · rw [set_other n]; exact R.raw j w e
  · rcases set_get e1 with ⟨rfl, e⟩ | ⟨n1, f1⟩
    · cases e
    rcases set_get e2 with ⟨rfl, e⟩ | ⟨n2, f2⟩
    · cases e
    rw [set_other n1] at e3
    rw [set_other n2] at e4
    exact R.inj j k a b p f1 f2 e3 e4
/-- an item of a walk: data, or a pair just made of data -/
def RpI (pr : Bool) (M : Addr → Prop) (H : Hp) (v : V) (d : D) : Prop := Rp M H v d ∨ (pr = true ∧ ∃ a xs ds, v = .ref a ∧ d = .tuple ds ∧ H a = some (.tup xs) ∧ RpAll M H xs ds)
def Pat.fits (pr : Bool) : Pat → Bool
  | .nm _ => !pr
  | .tp _ => true
structure Bnd (M0 : Addr → Prop) (σ : L2.St) (ρ : Rho) (sl : List Nat) (σ' : L2.St) (ρ' : Rho) : Prop where
  oth : ∀ j, j ∉ sl → σ'[j]? = σ[j]?
  len : σ'.length = σ.length
  mu : ∀ a, Mu true M0 σ' ρ' a → Mu true M0 σ ρ a
mutual
theorem bindP.ok {K : PySem.W.Frag} {M0 : Addr → Prop} {H0 H : Hp} : ∀ {p : Pat} {σ : L2.St} {ρ ρ' : Rho} {v : V} {d : D} {Q : L2.St → Hp → Prop} {pr : Bool}, Rs M0 H0 H σ ρ → RpI pr (Mu true M0 σ ρ) H v d → p.fits pr = true → bindP p d ρ = some ρ' →
    (∀ σ', Rs M0 H0 H σ' ρ' → Bnd M0 σ ρ (slP p) σ' ρ' → Q σ' H) → gP K p v σ H Q
  | .nm i, σ, ρ, ρ', v, d, Q, pr, R, r, ft, e, q => by
    have hpr : pr = false := by cases pr <;> first | rfl | cases ft
    subst hpr
    have r : Rp (Mu true M0 σ ρ) H v d := by
      rcases r with r | ⟨z, _⟩
      · exact r
      · cases z
    unfold bindP at e
    obtain ⟨l, rfl⟩ := iteS e
    refine q _ (R.set r) ⟨fun j hj => set_other fun z => hj (by rw [z]; exact List.mem_singleton.mpr rfl), List.length_set .., Mu.shrink fun ds e => by cases e⟩
  | .tp ps, σ, ρ, ρ', v, d, Q, pr, R, r, ft, e, q => by
    rcases r with r | ⟨_, a, xs, ds, rfl, rfl, t, r⟩
    · cases r <;> try (cases e; done)
      rename_i xs ds t n l r
      have hl := bindPs.len (show bindPs ps ds ρ = some ρ' from e)
      exact ⟨_, xs, rfl, t.sq, by rw [r.len]; exact hl, bindPs.ok R r e q⟩
    · have hl := bindPs.len (show bindPs ps ds ρ = some ρ' from e)
      exact ⟨_, xs, rfl, SqT.of t, by rw [r.len]; exact hl, bindPs.ok R r e q⟩
theorem bindPs.ok {K : PySem.W.Frag} {M0 : Addr → Prop} {H0 H : Hp} : ∀ {ps : Pats} {σ : L2.St} {ρ ρ' : Rho} {vs : List V} {ds : List D} {Q : L2.St → Hp → Prop}, Rs M0 H0 H σ ρ → RpAll (Mu true M0 σ ρ) H vs ds → bindPs ps ds ρ = some ρ' →
    (∀ σ', Rs M0 H0 H σ' ρ' → Bnd M0 σ ρ (slPs ps) σ' ρ' → Q σ' H) → gPs K ps vs σ H Q
  | .nil, σ, ρ, ρ', vs, ds, Q, R, r, e, q => by
    cases r with
    | nil => cases e; exact ⟨rfl, q σ R ⟨fun _ _ => rfl, rfl, fun a m => m⟩⟩
    | cons h t => cases e
  | .cons p ps, σ, ρ, ρ', vs, ds, Q, R, r, e, q => by
    cases r with
    | nil => cases e
    | cons h t =>
      unfold bindPs at e
      obtain ⟨ρ1, e1, e⟩ := some_bind e
      refine ⟨_, _, rfl, bindP.ok (pr := false) R (.inl h) (by cases p <;> rfl) e1 fun σ1 R1 B1 => ?_⟩
      refine bindPs.ok R1 (t.reM fun a m => .inl (B1.mu a m)) e fun σ2 R2 B2 => q σ2 R2 ⟨fun j hj => ?_, B2.len.trans B1.len, fun a m => B1.mu a (B2.mu a m)⟩
      have hj : j ∉ slP p ++ slPs ps := hj
      rw [List.mem_append, not_or] at hj
      rw [B2.oth j hj.2, B1.oth j hj.1]
theorem bindPs.len : ∀ {ps : Pats} {ds : List D} {ρ ρ' : Rho}, bindPs ps ds ρ = some ρ' → ds.length = ps.len
  | .nil, [], _, _, _ => rfl
  | .nil, _ :: _, _, _, e => nomatch e
  | .cons _ _, [], _, _, e => nomatch e
  | .cons p ps, d :: ds, ρ, ρ', e => by
    unfold bindPs at e
    obtain ⟨ρ1, e1, e⟩ := some_bind e
    exact congrArg (· + 1) (bindPs.len e)
end
/-! ### walks -/
structure DW (pr : Bool) (M : Addr → Prop) (H1 : Hp) (J : It) (items : List D) : Prop where
  ex : ∃ G Y, Walk J items.length G Y ∧ (∀ H2, KpM M H1 H2 → G H2) ∧ ∀ i v Ha Hb, KpM M H1 Ha → Y i Ha v Hb → ∃ d, items[i]? = some d ∧ Same Ha Hb ∧ RpI pr M Hb v d
  sz : items.length ≤ sizeLine
def iD (μ pr : Bool) (it : Rho → Option (List D)) : TI := fun σ H R => ∃ M0 H0 ρ items, Rs M0 H0 H σ ρ ∧ it ρ = some items ∧ ∀ J H', Same H H' → (∀ M', (∀ a, M' a → Mu μ M0 σ ρ a ∨ H' a = none) → DW pr M' H' J items) → R J H'
def seqD : D → Option (List D)
  | .tuple ds => some ds
  | .list ds => some ds
  | _ => none
def itSeq (f : EF) : Rho → Option (List D) := fun ρ => (f ρ).bind seqD
theorem DW.tup {K : PySem.W.Frag} {M : Addr → Prop} {H : Hp} {a : Addr} {xs : List V} {ds : List D} (t : TupF H a xs) (n : ¬ M a) (l : xs.length ≤ sizeLine) (r : RpAll M H xs ds) : DW false M H (Itt K a) ds := by
  obtain ⟨o, e, z⟩ := t
  refine ⟨⟨fun H => SqT K H a xs, YAt xs, by rw [← r.len]; exact walk_tup, fun H2 k => TupF.sq ⟨o, k _ _ n e, z⟩, fun i v Ha Hb k y => ?_⟩, by rw [← r.len]; exact l⟩
  obtain ⟨rfl, y⟩ := y
  obtain ⟨d, e1, e2⟩ := (r.mono k).getV y
  exact ⟨d, e1, Same.refl _, .inl e2⟩
theorem DW.lst {K : PySem.W.Frag} {M : Addr → Prop} {H : Hp} {a : Addr} {xs : List V} {ds : List D} (t : H a = some (.lst xs)) (n : ¬ M a) (l : xs.length ≤ sizeLine) (r : RpAll M H xs ds) : DW false M H (Itl K a) ds := by
  refine ⟨⟨fun H => SqL K H a xs, YAt xs, by rw [← r.len]; exact walk_list, fun H2 k => SqL.of (k _ _ n t), fun i v Ha Hb k y => ?_⟩, by rw [← r.len]; exact l⟩
  obtain ⟨rfl, y⟩ := y
  obtain ⟨d, e1, e2⟩ := (r.mono k).getV y
  exact ⟨d, e1, Same.refl _, .inl e2⟩
theorem nM {M M' : Addr → Prop} {H : Hp} {a : Addr} {o : HO} (hM : ∀ a, M' a → M a ∨ H a = none) (n : ¬ M a) (e : H a = some o) : ¬ M' a := fun m => (hM _ m).elim n fun z => by rw [z] at e; cases e
theorem nMT {M M' : Addr → Prop} {H : Hp} {a : Addr} {xs : List V} (hM : ∀ a, M' a → M a ∨ H a = none) (n : ¬ M a) (e : TupF H a xs) : ¬ M' a := by
  obtain ⟨o, e, _⟩ := e
  exact nM hM n e
section
variable {X : Cx}
theorem dI_seq {tg e : Expr} {f : EF} {μ : Bool} (h : PE X e (tD μ f)) : PI X tg e (iD μ false (itSeq f)) := ⟨fun pn s σ H R I q => by
  obtain ⟨M0, H0, ρ, items, Rr, e, q⟩ := q
  obtain ⟨d, ed, e⟩ := some_bind e
  cases d <;> try (cases e; done)
  · cases e
    refine (pi_list (tg := tg) h).run pn s σ H R I ⟨M0, H0, ρ, _, Rr, ed, fun v H1 s1 r1 => ?_⟩
    cases r1 with
    | lst t n l r => exact ⟨_, rfl, ⟨_, SqL.of t⟩, q _ _ s1 fun M' hM => DW.lst t (nM hM n t) l (r.reM hM)⟩
  · cases e
    refine (pi_tup (tg := tg) h).run pn s σ H R I ⟨M0, H0, ρ, _, Rr, ed, fun v H1 s1 r1 => ?_⟩
    cases r1 with
    | tup t n l r => exact ⟨_, rfl, ⟨_, t.sq⟩, q _ _ s1 fun M' hM => DW.tup t (nMT hM n t) l (r.reM hM)⟩⟩
def rgD (lo : Int) (n : Nat) : List D := (List.range n).map fun (i : Nat) => PyData.int (lo + (i : Int))
def ran1D : List D → Option (List D)
  | [.int j] => if -(2 ^ 62) ≤ j ∧ j < 2 ^ 20 then some (rgD 0 j.toNat) else none
  | _ => none
def ran2D : List D → Option (List D)
  | [.int i, .int j] => if -(2 ^ 62) ≤ i ∧ i < 2 ^ 62 ∧ -(2 ^ 62) ≤ j ∧ j < 2 ^ 62 ∧ j - i < 2 ^ 20 then some (rgD i (j - i).toNat) else none
  | _ => none
def itG (g : List D → Option (List D)) (f : Rho → Option (List D)) : Rho → Option (List D) := fun ρ => (f ρ).bind g
theorem szR {n : Nat} (h : n ≤ 2 ^ 20) : n ≤ sizeLine := Nat.le_trans h (by decide)
theorem DW.rng {M : Addr → Prop} {H : Hp} {lo : Int} {n : Nat} (l : n ≤ sizeLine) : DW false M H (Itr lo n) (rgD lo n) := by
  have hl : (rgD lo n).length = n := by unfold rgD; rw [List.length_map, List.length_range]
  refine ⟨⟨fun _ => True, fun i H x H' => i < n ∧ YFn (fun i => V.int (lo + i)) i H x H', ?_, fun _ _ => trivial, fun i v Ha Hb k y => ?_⟩, by rw [hl]; exact l⟩
  · rw [hl]
    exact ⟨walk_range.goes, walk_range.stops, fun i H x H' hi g y => ⟨hi, walk_range.yields i H x H' hi g y⟩⟩
  · obtain ⟨hi, rfl, rfl⟩ := y
    refine ⟨.int (lo + i), ?_, Same.refl _, .inl (.int _)⟩
    unfold rgD
    rw [List.getElem?_map, List.getElem?_range hi]
    rfl
theorem dI_ran1 {tg a : Expr} {p pos : Pos} {f : Rho → Option (List D)} {μ : Bool} (hg : Gl X "range") (hm : X.mg "range" = none) (ha : PA X [a] (tA μ f)) (hs : starEach [a] X.env = [(false, eval a X.env)] := by rfl) : PI X tg (.Call (.Name "range" p) [a] [] pos) (iD μ false (itG ran1D f)) := (pi_range1 hg hm ha hs).wk fun σ H R q => by
  obtain ⟨M0, H0, ρ, items, Rr, e, q⟩ := q
  obtain ⟨ds, ed, e⟩ := some_bind e
  refine ⟨M0, H0, ρ, ds, Rr, ed, fun vs H1 s1 r1 => ?_⟩
  cases r1 with
  | nil => cases e
  | cons h t =>
    cases t with
    | nil =>
      cases h <;> try (cases e; done)
      obtain ⟨l, rfl⟩ := iteS e
      exact ⟨_, rfl, l.1, by omega, q _ _ s1 fun M' hM => DW.rng (szR (by omega))⟩
    | cons h2 t => cases h <;> cases e
theorem dI_ran2 {tg a b : Expr} {p pos : Pos} {f : Rho → Option (List D)} {μ : Bool} (hg : Gl X "range") (hm : X.mg "range" = none) (ha : PA X [a, b] (tA μ f)) (hs : starEach [a, b] X.env = [(false, eval a X.env), (false, eval b X.env)] := by rfl) (hs2 : starEach [b] X.env = [(false, eval b X.env)] := by rfl) : PI X tg (.Call (.Name "range" p) [a, b] [] pos) (iD μ false (itG ran2D f)) := (pi_range2 hg hm ha hs hs2).wk fun σ H R q => by
  obtain ⟨M0, H0, ρ, items, Rr, e, q⟩ := q
  obtain ⟨ds, ed, e⟩ := some_bind e
  refine ⟨M0, H0, ρ, ds, Rr, ed, fun vs H1 s1 r1 => ?_⟩
  cases r1 with
  | nil => cases e
  | cons h t =>
    cases t with
    | nil => cases h <;> cases e
    | cons h2 t =>
      cases t with
      | cons h3 t => cases h <;> cases h2 <;> cases e
      | nil =>
        cases h <;> cases h2 <;> try (cases e; done)
        obtain ⟨l, rfl⟩ := iteS e
        exact ⟨_, _, rfl, ⟨l.1, l.2.1, l.2.2.1, l.2.2.2.1⟩, q _ _ s1 fun M' hM => DW.rng (szR (by omega))⟩
def enGo : Nat → List D → List D
  | _, [] => []
  | i, d :: ds => .tuple [.int (i : Int), d] :: enGo (i + 1) ds
theorem enGo.len : ∀ (i : Nat) (ds : List D), (enGo i ds).length = ds.length
  | _, [] => rfl
  | i, d :: ds => congrArg (· + 1) (enGo.len (i + 1) ds)
theorem enGo.get : ∀ (i : Nat) (ds : List D) (j : Nat) (d : D), ds[j]? = some d → (enGo i ds)[j]? = some (.tuple [.int ((i + j : Nat) : Int), d])
  | _, [], _, _, e => nomatch e
  | i, d :: ds, 0, _, e => by cases e; rfl
  | i, d :: ds, j + 1, _, e => by
    have := enGo.get (i + 1) ds j _ e
    rw [show i + (j + 1) = i + 1 + j by omega]
    exact this
def enD : List D → Option (List D)
  | [.tuple ds] => some (enGo 0 ds)
  | [.list ds] => some (enGo 0 ds)
  | _ => none
theorem DW.pair {M : Addr → Prop} {H : Hp} {J : It} {n : Nat} {G : Hp → Prop} {fx fy : Nat → Option V} {items : List D} (W : Walk J n G (YPair fx fy)) (hn : n = items.length) (sz : n ≤ sizeLine) (hG : ∀ H2, KpM M H H2 → G H2)
    (hy : ∀ i x y Ha, KpM M H Ha → fx i = some x → fy i = some y → ∃ a b, items[i]? = some (.tuple [a, b]) ∧ Rp M Ha x a ∧ Rp M Ha y b) : DW true M H J items := by
  subst hn
  refine ⟨⟨G, YPair fx fy, W, hG, fun i v Ha Hb k y => ?_⟩, sz⟩
  obtain ⟨T, x, y, rfl, nT, rfl, ex, ey⟩ := y
  obtain ⟨a, b, e, ra, rb⟩ := hy i x y Ha k ex ey
  exact ⟨_, e, smN nT, .inr ⟨rfl, T, _, _, rfl, rfl, upd_same, .cons (ra.mono (.of (smN nT))) (.cons (rb.mono (.of (smN nT))) .nil)⟩⟩
theorem dI_enum {e : Expr} {p pos tpos : Pos} {elts : List Expr} {kk : Nat} {f : Rho → Option (List D)} {μ : Bool} (hg : Gl X "enumerate") (hm : X.mg "enumerate" = none) (ha : PA X [e] (tA μ f)) (hs : starEach [e] X.env = [(false, eval e X.env)] := by rfl) : PI X (.Tuple elts kk tpos) (.Call (.Name "enumerate" p) [e] [] pos) (iD μ true (itG enD f)) := ⟨fun pn s σ H R I q => by
  obtain ⟨M0, H0, ρ, items, Rr, e, q⟩ := q
  obtain ⟨ds, ed, e⟩ := some_bind e
  match ds, e with
  | [.list ds], e =>
    cases e
    refine (pi_enum hg hm ha hs).run pn s σ H R I ⟨M0, H0, ρ, _, Rr, ed, fun vs H1 s1 r1 => ?_⟩
    cases r1 with
    | cons h t =>
      cases t
      cases h with
      | lst t n l r =>
        refine ⟨_, _, rfl, SqL.of t, q _ _ s1 fun M' hM => DW.pair walk_enum (by rw [enGo.len, r.len]) l (fun H2 k => SqL.of (k _ _ (nM hM n t) t)) fun i x y Ha k ex ey => ?_⟩
        cases ex
        obtain ⟨d, e1, e2⟩ := ((r.reM hM).mono k).getV ey
        exact ⟨_, d, by rw [enGo.get 0 _ _ _ e1, Nat.zero_add], .int _, e2⟩
  | [.tuple ds], e =>
    cases e
    refine (pi_enumT hg hm ha hs).run pn s σ H R I ⟨M0, H0, ρ, _, Rr, ed, fun vs H1 s1 r1 => ?_⟩
    cases r1 with
    | cons h t =>
      cases t
      cases h with
      | tup t n l r =>
        refine ⟨_, _, rfl, t.sq, q _ _ s1 fun M' hM => DW.pair walk_enumT (by rw [enGo.len, r.len]) l (fun H2 k => ?_) fun i x y Ha k ex ey => ?_⟩
        · have n := nMT hM n t
          obtain ⟨o, e, z⟩ := t
          exact TupF.sq ⟨o, k _ _ n e, z⟩
        cases ex
        obtain ⟨d, e1, e2⟩ := ((r.reM hM).mono k).getV ey
        exact ⟨_, d, by rw [enGo.get 0 _ _ _ e1, Nat.zero_add], .int _, e2⟩⟩
def zpGo : List D → List D → List D
  | a :: as, b :: bs => .tuple [a, b] :: zpGo as bs
  | _, _ => []
theorem zpGo.len : ∀ (as bs : List D), (zpGo as bs).length = min as.length bs.length
  | [], bs => by cases bs <;> rfl
  | a :: as, [] => rfl
  | a :: as, b :: bs => by
    show (zpGo as bs).length + 1 = min (as.length + 1) (bs.length + 1)
    rw [zpGo.len as bs]
    omega
theorem zpGo.get : ∀ (as bs : List D) (j : Nat) (a b : D), as[j]? = some a → bs[j]? = some b → (zpGo as bs)[j]? = some (.tuple [a, b])
  | [], _, _, _, _, e, _ => nomatch e
  | _ :: _, [], _, _, _, _, e => nomatch e
  | a :: as, b :: bs, 0, _, _, e, f => by cases e; cases f; rfl
  | a :: as, b :: bs, j + 1, _, _, e, f => zpGo.get as bs j _ _ e f
def zpD : List D → Option (List D)
  | [.tuple a, .tuple b] => some (zpGo a b)
  | [.list a, .list b] => some (zpGo a b)
  | _ => none
theorem walk_zipX {K : PySem.W.Frag} {a b : Addr} {xs ys : List V} : Walk (RZ.ItzT K a b) (min xs.length ys.length) (fun H => SqT K H a xs ∧ SqT K H b ys) (YPair (fun i => xs[i]?) (fun i => ys[i]?)) := by
  refine ⟨fun i H hi z => ?_, fun H z => ⟨xs, ys, z.1, z.2, by omega⟩, fun i H v H' hi z y => ?_⟩
  · have h1 : i < xs.length := by omega
    have h2 : i < ys.length := by omega
    exact ⟨xs, ys, xs[i], ys[i], z.1, z.2, by simp [h1], by simp [h2]⟩
  · obtain ⟨T, x, u, h1, h2, h3, h4, h5⟩ := y
    exact ⟨T, x, u, h1, h2, h3, h4 xs z.1, h5 ys z.2⟩
theorem walk_zipY {K : PySem.W.Frag} {a b : Addr} {xs ys : List V} : Walk (L2.Itz K a b) (min xs.length ys.length) (fun H => SqL K H a xs ∧ SqL K H b ys) (YPair (fun i => xs[i]?) (fun i => ys[i]?)) := by
  refine ⟨fun i H hi z => ?_, fun H z => ⟨xs, ys, z.1, z.2, by omega⟩, fun i H v H' hi z y => ?_⟩
  · have h1 : i < xs.length := by omega
    have h2 : i < ys.length := by omega
    exact ⟨xs, ys, xs[i], ys[i], z.1, z.2, by simp [h1], by simp [h2]⟩
  · obtain ⟨T, x, u, h1, h2, h3, h4, h5⟩ := y
    exact ⟨T, x, u, h1, h2, h3, h4 xs z.1, h5 ys z.2⟩
theorem dI_zip {e e2 : Expr} {p pos tpos : Pos} {elts : List Expr} {kk : Nat} {f : Rho → Option (List D)} {μ : Bool} (hg : Gl X "zip") (hm : X.mg "zip" = none) (ha : PA X [e, e2] (tA μ f)) (hs : starEach [e, e2] X.env = (false, eval e X.env) :: starEach [e2] X.env := by rfl) (hpl : (backTo pos (starEach [e2] X.env)).any (·.1) = false := by rfl) :
    PI X (.Tuple elts kk tpos) (.Call (.Name "zip" p) [e, e2] [] pos) (iD μ true (itG zpD f)) := (RZ.pi_zipA hg hm ha hs hpl).wk fun σ H R q => by
  obtain ⟨M0, H0, ρ, items, Rr, e, q⟩ := q
  obtain ⟨ds, ed, e⟩ := some_bind e
  refine ⟨M0, H0, ρ, ds, Rr, ed, fun vs H1 s1 r1 => ?_⟩
  match ds, e, r1 with
  | [.tuple a, .tuple b], e, .cons (@Rp.tup _ _ a1 xs1 _ t n l r) (.cons (@Rp.tup _ _ a2 xs2 _ t2 n2 l2 r2) .nil) =>
    cases e
    refine ⟨_, _, _, _, rfl, .inr ⟨t.sq, t2.sq, q _ _ s1 fun M' hM => DW.pair (walk_zipX (xs := xs1) (ys := xs2)) (by rw [zpGo.len, r.len, r2.len]) (by omega) (fun H2 k => ?_) fun i x y Ha k ex ey => ?_⟩⟩
    · have n := nMT hM n t
      have n2 := nMT hM n2 t2
      obtain ⟨o, e, z⟩ := t
      obtain ⟨o2, e2, z2⟩ := t2
      exact ⟨TupF.sq ⟨o, k _ _ n e, z⟩, TupF.sq ⟨o2, k _ _ n2 e2, z2⟩⟩
    · obtain ⟨d, e1, e2⟩ := ((r.reM hM).mono k).getV ex
      obtain ⟨d', e3, e4⟩ := ((r2.reM hM).mono k).getV ey
      exact ⟨d, d', zpGo.get _ _ _ _ _ e1 e3, e2, e4⟩
  | [.list a, .list b], e, .cons (@Rp.lst _ _ a1 xs1 _ t n l r) (.cons (@Rp.lst _ _ a2 xs2 _ t2 n2 l2 r2) .nil) =>
    cases e
    refine ⟨_, _, _, _, rfl, .inl ⟨SqL.of t, SqL.of t2, q _ _ s1 fun M' hM => DW.pair (walk_zipY (xs := xs1) (ys := xs2)) (by rw [zpGo.len, r.len, r2.len]) (by omega) (fun H2 k => ⟨SqL.of (k _ _ (nM hM n t) t), SqL.of (k _ _ (nM hM n2 t2) t2)⟩) fun i x y Ha k ex ey => ?_⟩⟩
    obtain ⟨d, e1, e2⟩ := ((r.reM hM).mono k).getV ex
    obtain ⟨d', e3, e4⟩ := ((r2.reM hM).mono k).getV ey
    exact ⟨d, d', zpGo.get _ _ _ _ _ e1 e3, e2, e4⟩
end
end Dl
namespace Dl
open PySem PySem.Spec PyProof.Rows L2 Rt
/-! ### comprehensions -/
def sealL (μ : Bool) : Option LV → Option LV
  | some (.own ds) => if μ = true then none else some (.dat (.list ds))
  | x => x
def shutR (μ : Bool) (ρ : Rho) : Rho := ρ.map (sealL μ)
def wipeR : Rho → List Nat → Rho
  | ρ, [] => ρ
  | ρ, v :: vs => (wipeR ρ vs).set v none
theorem wipe_get {σ : L2.St} : ∀ {vs : List Nat} {j : Nat}, j ∉ vs → (wipe σ vs)[j]? = σ[j]?
  | [], _, _ => rfl
  | v :: vs, j, h => by
    have h : j ≠ v ∧ j ∉ vs := by simpa using h
    show ((wipe σ vs).set v none)[j]? = σ[j]?
    rw [set_other h.1.symm, wipe_get h.2]
theorem wipe_len {σ : L2.St} : ∀ {vs : List Nat}, (wipe σ vs).length = σ.length
  | [] => rfl
  | v :: vs => by
    show ((wipe σ vs).set v none).length = σ.length
    rw [List.length_set, wipe_len]
theorem wipe_in {σ : L2.St} : ∀ {vs : List Nat} {j : Nat}, j ∈ vs → (wipe σ vs)[j]? = if j < σ.length then some none else none
  | v :: vs, j, h => by
    show ((wipe σ vs).set v none)[j]? = _
    by_cases e : v = j
    · subst e
      rw [List.getElem?_set, if_pos rfl, wipe_len]
    · rw [set_other e]
      refine wipe_in ?_
      rcases List.mem_cons.mp h with h | h
      · exact (e h.symm).elim
      · exact h
theorem wipe_eq {σ σ2 : L2.St} {vs sl : List Nat} (h : ∀ j, j ∉ sl → σ2[j]? = (wipe σ vs)[j]?) (hl : σ2.length = (wipe σ vs).length) (hs : ∀ j, j ∈ sl → j ∈ vs) : wipe σ2 vs = wipe σ vs := by
  rw [wipe_len] at hl
  apply List.ext_getElem?
  intro j
  by_cases hj : j ∈ vs
  · rw [wipe_in hj, wipe_in hj, hl]
  · rw [wipe_get hj, wipe_get hj, h j fun z => hj (hs j z), wipe_get hj]
theorem seal_get {μ : Bool} {ρ : Rho} {i : Nat} {x : LV} (h : (shutR μ ρ)[i]? = some (some x)) : (ρ[i]? = some (some x) ∧ ∀ ds, x ≠ .own ds) ∨ (μ = false ∧ ∃ ds, ρ[i]? = some (some (.own ds)) ∧ x = .dat (.list ds)) := by
  unfold shutR at h
  rw [List.getElem?_map] at h
  cases e : ρ[i]? with
  | none => rw [e] at h; cases h
  | some y =>
    rw [e] at h
    have h : sealL μ y = some x := by simpa using h
    match y, h with
    | some (.own ds), h =>
      unfold sealL at h
      cases μ with
      | true => cases h
      | false => cases h; exact .inr ⟨rfl, ds, rfl, rfl⟩
    | some (.dat d), h => cases h; exact .inl ⟨rfl, fun ds z => by cases z⟩
    | some (.raw d), h => cases h; exact .inl ⟨rfl, fun ds z => by cases z⟩
    | some .pool, h => cases h; exact .inl ⟨rfl, fun ds z => by cases z⟩
    | none, h => cases h
def Mi (μ : Bool) (M0 : Addr → Prop) (σ : L2.St) (ρ : Rho) (D : Addr) (p : Addr) : Prop := Mu μ M0 σ ρ p ∨ p = D
theorem Mi.noOwn {μ : Bool} {M1 : Addr → Prop} {σ' : L2.St} {ρ : Rho} {vs : List Nat} : ∀ a, Mu true M1 σ' (wipeR (shutR μ ρ) vs) a → M1 a := fun a m => by
  rcases m with m | ⟨_, i, ds, e, _⟩
  · exact m
  · exfalso
    have : ∀ (vs : List Nat) (i : Nat), (wipeR (shutR μ ρ) vs)[i]? = some (some (.own ds)) → False := by
      intro vs
      induction vs with
      | nil =>
        intro i e
        rcases seal_get (show (shutR μ ρ)[i]? = _ from e) with ⟨_, z⟩ | ⟨_, _, _, z⟩
        · exact z ds rfl
        · cases z
      | cons v vs ih =>
        intro i e
        rcases set_get (show ((wipeR (shutR μ ρ) vs).set v none)[i]? = _ from e) with ⟨_, z⟩ | ⟨_, z⟩
        · cases z
        · exact ih i z
    exact this vs i e
theorem Rs.inner {μ : Bool} {M0 : Addr → Prop} {H0 H H2 : Hp} {σ : L2.St} {ρ : Rho} {D : Addr} {ob : HO} (R : Rs M0 H0 H σ ρ) (hD : H D = none) (s : Same H H2) (eD : H2 D = some ob) (vs : List Nat) : Rs (Mi μ M0 σ ρ D) H2 H2 (wipe σ vs) (wipeR (shutR μ ρ) vs) := by
  have base : Rs (Mi μ M0 σ ρ D) H2 H2 σ (shutR μ ρ) := by
    have no := Mi.noOwn (μ := μ) (M1 := Mi μ M0 σ ρ D) (σ' := σ) (ρ := ρ) (vs := [])
    refine ⟨Same.refl _, fun p m => ?_, ?_, fun i d e => ?_, fun i ds e => ?_, fun i v e => ?_, fun i j a b p e1 e2 e3 e4 => ?_⟩
    · rcases m with m | rfl
      · exact ((R.domu μ).mono s) p m
      · rw [eD]; intro z; cases z
    · unfold shutR; rw [List.length_map]; exact R.len
    · rcases seal_get e with ⟨e8, _⟩ | ⟨rfl, ds, e8, z9⟩
      · cases μ with
        | true =>
          obtain ⟨v, a, b⟩ := R.dat i d e8
          refine ⟨v, a, (b.reM fun a m => ?_).mono (.of s)⟩
          rcases no a m with m | rfl
          · exact .inl m
          · exact .inr hD
        | false =>
          obtain ⟨v, a, b⟩ := R.dat i d e8
          refine ⟨v, a, (b.reM fun a m => ?_).mono (.of s)⟩
          rcases no a m with m | rfl
          · exact Mu.up a m
          · exact .inr hD
      · cases z9
        obtain ⟨p, vs, a, b, c, l, r⟩ := R.own i ds e8
        refine ⟨.ref p, a, (Rp.lst b (fun m => ?_) l (r.reM fun a m => ?_)).mono (.of s)⟩
        · rcases no p m with m | rfl
          · rcases m with m | ⟨z, _⟩
            · exact R.dom p m c
            · cases z
          · rw [hD] at b; cases b
        · rcases no a m with m | rfl
          · exact Mu.up a m
          · exact .inr hD
    · rcases seal_get e with ⟨e, z⟩ | ⟨_, _, _, z⟩
      · exact (z ds rfl).elim
      · cases z
    · rcases seal_get e with ⟨e, z⟩ | ⟨_, _, _, z⟩
      · exact R.raw i v e
      · cases z
    · rcases seal_get e1 with ⟨e, z⟩ | ⟨_, _, _, z⟩
      · exact (z _ rfl).elim
      · cases z
  induction vs with
  | nil => exact base
  | cons v vs ih => exact ih.clear v none
def lcGo (p : Pat) (c : Rho → Option Bool) (f : EF) (ρ : Rho) : List D → Option (List D)
  | [] => some []
  | x :: xs => (bindP p x ρ).bind fun ρ1 => (c ρ1).bind fun b => if b = true then (f ρ1).bind fun d => (lcGo p c f ρ xs).map fun r => d :: r else lcGo p c f ρ xs
def eLc (μ : Bool) (vs : List Nat) (it : Rho → Option (List D)) (p : Pat) (c : Rho → Option Bool) (f : EF) : EF := fun ρ => (it ρ).bind fun items => (lcGo p c f (wipeR (shutR μ ρ) vs) items).map .list
theorem some_map {α β : Type} {o : Option α} {f : α → β} {b : β} (h : o.map f = some b) : ∃ a, o = some a ∧ f a = b := by
  cases o with
  | none => cases h
  | some a => cases h; exact ⟨a, rfl, rfl⟩
theorem drop_at {α : Type} {xs : List α} {i : Nat} {x : α} (h : xs[i]? = some x) : xs.drop i = x :: xs.drop (i + 1) := by
  obtain ⟨hl, e⟩ := List.getElem?_eq_some_iff.mp h
  rw [List.drop_eq_getElem_cons hl, e]
theorem lcCore {K : PySem.W.Frag} {μ μi pr : Bool} {M0 : Addr → Prop} {H0 H1 : Hp} {σ : L2.St} {ρ : Rho} {J : It} {items res : List D} {p : Pat} {c : Rho → Option Bool} {f : EF} {vs : List Nat} {D : Addr} {Qd : Hp → Prop}
    (R : Rs M0 H0 H1 σ ρ) (dw : ∀ M', (∀ a, M' a → Mu μ M0 σ ρ a ∨ H1 a = none) → DW pr M' H1 J items) (hD : H1 D = none) (hp : p.fits pr = true) (hs : ∀ j, j ∈ slP p → j ∈ vs) (e : lcGo p c f (wipeR (shutR μ ρ) vs) items = some res)
    (q : ∀ H acc, Same H1 H → H D = some (.lst acc) → acc.length ≤ sizeLine → RpAll (Mi μ M0 σ ρ D) H acc res → Qd H) :
    ∃ W : Nat → Nat → Hp → Prop, (∃ m, W 0 m (upd H1 D (.lst []))) ∧ ∀ i m H, W i m H →
      (J.stop i H ∧ Qd H) ∨ (J.go i H ∧ ∃ Nx : Hp → Prop, (∀ H', Nx H' → ∃ m', m' < m ∧ W (i + 1) m' H') ∧ ∀ x H', J.yld i H x H' → gP K p x (wipe σ vs) H' fun σ2 H2 => wipe σ2 vs = wipe σ vs ∧ tT c σ2 H2 fun b H3 =>
        if b = true then tD μi f σ2 H3 fun y H4 => ∃ acc, H4 D = some (.lst acc) ∧ acc.length < sizeLine ∧ Nx (upd H4 D (.lst (acc ++ [y]))) else Nx H3) := by
  have dw := dw (Mi μ M0 σ ρ D) fun a m => m.elim .inl fun z => .inr (by rw [z]; exact hD)
  have sz := dw.sz
  obtain ⟨G, Y, W, hG, hY⟩ := dw.ex
  refine lc_it W (fun i H => Same H1 H ∧ ∃ acc done rest, H D = some (.lst acc) ∧ acc.length ≤ i ∧ RpAll (Mi μ M0 σ ρ D) H acc done ∧ lcGo p c f (wipeR (shutR μ ρ) vs) (items.drop i) = some rest ∧ done ++ rest = res) ⟨smN hD, [], [], res, upd_same, Nat.le_refl _, .nil, e, rfl⟩ (fun i H hi h => hG H (.of h.1)) (fun i v H H' hi h y => ?_) (fun H h => ?_)
  · obtain ⟨sm, acc, done, rest, eD, la, ra, er, et⟩ := h
    obtain ⟨d, ed, s2, rv⟩ := hY i v H H' (.of sm) y
    rw [drop_at ed] at er
    unfold lcGo at er
    obtain ⟨ρ1, e1, er⟩ := some_bind er
    obtain ⟨b, eb, er⟩ := some_bind er
    have Rin := R.inner (μ := μ) hD (sm.trans s2) (s2 _ _ eD) vs
    refine bindP.ok (pr := pr) Rin ?_ hp e1 fun σ2 R2 B2 => ⟨wipe_eq B2.oth B2.len hs, _, _, ρ1, b, R2, eb, fun H3 s3 => ?_⟩
    · rcases rv with rv | ⟨zp, a, xs, ds, z1, z2, z3, z4⟩
      · exact .inl (rv.reM fun a m => .inl (Mi.noOwn a m))
      · exact .inr ⟨zp, a, xs, ds, z1, z2, z3, z4.reM fun a m => .inl (Mi.noOwn a m)⟩
    have s13 := (sm.trans s2).trans s3
    cases b with
    | true =>
      obtain ⟨dv, edv, er⟩ := some_bind (show (f ρ1).bind _ = some rest from er)
      obtain ⟨r2, er2, rfl⟩ := some_map er
      refine ⟨_, _, ρ1, dv, R2.mono s3, edv, fun y H4 s4 r4 => ?_⟩
      have s14 := s13.trans s4
      have eD4 := (s2.trans (s3.trans s4)) _ _ eD
      have kp : KpM (Mi μ M0 σ ρ D) H4 (upd H4 D (.lst (acc ++ [y]))) := fun q o n e => by
        rw [upd_ne (fun z => n (.inr z))]
        exact e
      have r4 : Rp (Mi μ M0 σ ρ D) H4 y dv := r4.reM fun a m => .inl (.inl m)
      refine ⟨acc, eD4, by omega, fun q o e => ?_, acc ++ [y], done ++ [dv], r2, upd_same, by rw [List.length_append]; simp; omega, ?_, er2, by rw [← et, List.append_assoc]; rfl⟩
      · rw [upd_ne (ne_of_none e hD)]
        exact s14 _ _ e
      · exact ((ra.mono (.of (s2.trans (s3.trans s4)))).mono kp).app (.cons (r4.mono kp) .nil)
    | false =>
      exact ⟨s13, acc, done, rest, (s2.trans s3) _ _ eD, by omega, ra.mono (.of (s2.trans s3)), er, et⟩
  · obtain ⟨sm, acc, done, rest, eD, la, ra, er, et⟩ := h
    rw [List.drop_length] at er
    cases er
    rw [List.append_nil] at et
    subst et
    exact q H acc sm eD (by omega) ra
section
variable {X : Cx} {K : PySem.W.Frag}
def oYes : Rho → Option Bool := fun _ => some true
theorem _root_.L2.PTs.wk {es : List Expr} {t t' : TT} (h : PTs X es t) (m : ∀ σ H Q, t' σ H Q → t σ H Q) : PTs X es t' := ⟨fun pn s σ H Q I q => h.run pn s σ H Q I (m _ _ _ q)⟩
theorem dTs_nil : PTs X [] (tT oYes) := pts_nil.wk fun σ H Q q => by
  obtain ⟨M0, H0, ρ, b, R, e, q⟩ := q
  cases e
  exact q _ (Same.refl _)
/-- a new list, whose address is nobody's -/
def tN (f : EF) : TE := fun σ H Q => ∃ M0 H0 ρ ds, Rs M0 H0 H σ ρ ∧ f ρ = some (.list ds) ∧ ∀ p vs H', H p = none → Same H H' → H' p = some (.lst vs) → vs.length ≤ sizeLine → RpAll (Mi true M0 σ ρ p) H' vs ds → Q (.ref p) H'
theorem dLc {it : Rho → Option (List D)} {p : Pat} {c : Rho → Option Bool} {f : EF} {vs : List Nat} {μ μi pr : Bool} (hp : p.fits pr = true) (hs : ∀ j, j ∈ slP p → j ∈ vs) {σ : L2.St} {H : Hp} {Q : VK} (q : tD μ (eLc μ vs it p c f) σ H Q) : tLc (iD μ pr it) (gP K p) (tT c) (tD μi f) vs σ H Q := by
  obtain ⟨M0, H0, ρ, d, R, e, q⟩ := q
  obtain ⟨items, ei, e⟩ := some_bind e
  obtain ⟨res, er, rfl⟩ := some_map e
  refine ⟨M0, H0, ρ, items, R, ei, fun J H1 s1 dw D hD => lcCore (R.mono s1) dw hD hp hs er fun H2 acc s2 eD la ra => q _ _ (s1.trans s2) (.lst eD (((R.mono s1).domu μ).not hD) la (ra.reM fun a m => .inl (.inl m)))⟩
theorem nLc {it : Rho → Option (List D)} {p : Pat} {c : Rho → Option Bool} {f : EF} {vs : List Nat} {μi pr : Bool} (hp : p.fits pr = true) (hs : ∀ j, j ∈ slP p → j ∈ vs) {σ : L2.St} {H : Hp} {Q : VK} (q : tN (eLc true vs it p c f) σ H Q) : tLc (iD true pr it) (gP K p) (tT c) (tD μi f) vs σ H Q := by
  obtain ⟨M0, H0, ρ, d, R, e, q⟩ := q
  obtain ⟨items, ei, e⟩ := some_bind e
  obtain ⟨res, er, e⟩ := some_map e
  cases e
  refine ⟨M0, H0, ρ, items, R, ei, fun J H1 s1 dw D hD => lcCore (R.mono s1) dw hD hp hs er fun H2 acc s2 eD la ra => q D acc H2 ?_ (s1.trans s2) eD la ra⟩
  cases z : H D with
  | none => rfl
  | some o => rw [s1 _ _ z] at hD; cases hD
/-! ### statements -/
def sAsg (p : Pat) (f : EF) : Rho → Option Out := fun ρ => (f ρ).bind fun d => (bindP p d ρ).map .nx
theorem dS_asg {st : Stmt} {p : Pat} {f : EF} (h : PS X st (tAsg (tD true f) (gP K p))) : PS X st (tS (sAsg p f)) := h.wk fun Dn σ H q => by
  obtain ⟨M0, H0, ρ, o, R, e, q⟩ := q
  obtain ⟨d, ed, e⟩ := some_bind e
  obtain ⟨ρ1, e1, rfl⟩ := some_map e
  exact ⟨M0, H0, ρ, d, R, ed, fun v H1 s1 r1 => bindP.ok (pr := false) (R.mono s1) (.inl r1) (by cases p <;> rfl) e1 fun σ1 R1 B1 => q σ1 H1 R1 ⟨.of s1, fun p m => .inl (B1.mu p m)⟩⟩
def sRet (f : EF) : Rho → Option Out := fun ρ => (f ρ).map .rt
theorem dS_ret {st : Stmt} {f : EF} {μ : Bool} (h : PS X st (tRet (tD μ f))) : PS X st (tS (sRet f)) := h.wk fun Dn σ H q => by
  obtain ⟨M0, H0, ρ, o, R, e, q⟩ := q
  obtain ⟨d, ed, rfl⟩ := some_map e
  exact ⟨M0, H0, ρ, d, R, ed, fun v H1 s1 r1 => q v H1 (R.sm.trans s1) (r1.reM Mu.lo)⟩
def sRetN : Rho → Option Out := fun _ => some (.rt .none)
theorem dS_retN {pos : Pos} : PS X (.Return none pos) (tS sRetN) := ps_retN.wk fun Dn σ H q => by
  obtain ⟨M0, H0, ρ, o, R, e, q⟩ := q
  cases e
  exact q _ H R.sm .non
def sDrop (f : EF) : Rho → Option Out := fun ρ => (f ρ).map fun _ => .nx ρ
theorem dS_expr {st : Stmt} {f : EF} {μ : Bool} (h : PS X st (tDrop (tD μ f))) : PS X st (tS (sDrop f)) := h.wk fun Dn σ H q => by
  obtain ⟨M0, H0, ρ, o, R, e, q⟩ := q
  obtain ⟨d, ed, rfl⟩ := some_map e
  exact ⟨M0, H0, ρ, d, R, ed, fun v H1 s1 r1 => q σ H1 (R.mono s1) ⟨.of s1, fun p m => .inl m⟩⟩
def sIf (c : Rho → Option Bool) (f g : Rho → Option Out) : Rho → Option Out := fun ρ => (c ρ).bind fun b => if b = true then f ρ else g ρ
/-- from a later heap, where what stood stands -/
def Post (M0 : Addr → Prop) (H0 : Hp) (σ : L2.St) (ρ : Rho) (H : Hp) (Dn : Ends) : Out → Prop
  | .nx ρ' => ∀ σ' H', Rs M0 H0 H' σ' ρ' → Stp M0 σ ρ H σ' ρ' H' → Dn.nx σ' H'
  | .rt d => ∀ v H', Same H0 H' → Rp M0 H' v d → Dn.rt v H'
  | .bk ρ' => ∀ σ' H', Rs M0 H0 H' σ' ρ' → Stp M0 σ ρ H σ' ρ' H' → Dn.bk σ' H'
  | .ct ρ' => ∀ σ' H', Rs M0 H0 H' σ' ρ' → Stp M0 σ ρ H σ' ρ' H' → Dn.ct σ' H'
theorem tS_iff {f : Rho → Option Out} {Dn : Ends} {σ : L2.St} {H : Hp} : tS f Dn σ H ↔ ∃ M0 H0 ρ o, Rs M0 H0 H σ ρ ∧ f ρ = some o ∧ Post M0 H0 σ ρ H Dn o := by
  constructor
  · rintro ⟨M0, H0, ρ, o, R, e, q⟩
    exact ⟨M0, H0, ρ, o, R, e, by cases o <;> exact q⟩
  · rintro ⟨M0, H0, ρ, o, R, e, q⟩
    exact ⟨M0, H0, ρ, o, R, e, by cases o <;> exact q⟩
theorem Post.from {M0 : Addr → Prop} {H0 : Hp} {σ σ1 : L2.St} {ρ ρ1 : Rho} {H H1 : Hp} {Dn : Ends} {o : Out} (st : Stp M0 σ ρ H σ1 ρ1 H1) (p : Post M0 H0 σ ρ H Dn o) : Post M0 H0 σ1 ρ1 H1 Dn o := by
  cases o with
  | nx ρ' => exact fun σ' H' R s => p σ' H' R (st.trans s)
  | rt d => exact p
  | bk ρ' => exact fun σ' H' R s => p σ' H' R (st.trans s)
  | ct ρ' => exact fun σ' H' R s => p σ' H' R (st.trans s)
theorem Stp.of {M0 : Addr → Prop} {σ : L2.St} {ρ : Rho} {H H' : Hp} (s : Same H H') : Stp M0 σ ρ H σ ρ H' := ⟨.of s, fun p m => .inl m⟩
theorem dS_if {c : Expr} {a b : List Stmt} {pos : Pos} {t : Rho → Option Bool} {f g : Rho → Option Out} (hc : PT X c (tT t)) (ha : PSs X a (tS f)) (hb : PSs X b (tS g)) : PS X (.If c a b pos) (tS (sIf t f g)) := (ps_if hc ha hb).wk fun Dn σ H q => by
  obtain ⟨M0, H0, ρ, o, R, e, q⟩ := tS_iff.mp q
  obtain ⟨c, ec, e⟩ := some_bind e
  refine ⟨M0, H0, ρ, c, R, ec, fun H1 s1 => ?_⟩
  cases c with
  | true => exact tS_iff.mpr ⟨M0, H0, ρ, o, R.mono s1, e, q.from (.of s1)⟩
  | false => exact tS_iff.mpr ⟨M0, H0, ρ, o, R.mono s1, e, q.from (.of s1)⟩
def sSeq (f g : Rho → Option Out) : Rho → Option Out := fun ρ => (f ρ).bind fun o => match o with
  | .nx ρ' => g ρ'
  | o => some o
theorem dSs_cons {st : Stmt} {rest : List Stmt} {f g : Rho → Option Out} (h : PS X st (tS f)) (hs : PSs X rest (tS g)) : PSs X (st :: rest) (tS (sSeq f g)) := (pss_cons h hs).wk fun Dn σ H q => by
  obtain ⟨M0, H0, ρ, o, R, e, q⟩ := tS_iff.mp q
  obtain ⟨o1, e1, e⟩ := some_bind e
  refine tS_iff.mpr ⟨M0, H0, ρ, o1, R, e1, ?_⟩
  cases o1 with
  | nx ρ' => exact fun σ' H' R' s => tS_iff.mpr ⟨M0, H0, ρ', o, R', e, q.from s⟩
  | rt d => cases e; exact q
  | bk ρ' => cases e; exact q
  | ct ρ' => cases e; exact q
theorem dSs_one {st : Stmt} {f : Rho → Option Out} (h : PS X st (tS f)) : PSs X [st] (tS f) := pss_one h
def sNil : Rho → Option Out := fun ρ => some (.nx ρ)
theorem dSs_nil : PSs X [] (tS sNil) := pss_nil.wk fun Dn σ H q => by
  obtain ⟨M0, H0, ρ, o, R, e, q⟩ := tS_iff.mp q
  cases e
  exact q σ H R .refl
theorem dS_pass {pos : Pos} : PS X (.Pass pos) (tS sNil) := ps_pass.wk fun Dn σ H q => by
  obtain ⟨M0, H0, ρ, o, R, e, q⟩ := tS_iff.mp q
  cases e
  exact q σ H R .refl
def forGo (p : Pat) (body : Rho → Option Out) : List D → Rho → Option Out
  | [], ρ => some (.nx ρ)
  | x :: xs, ρ => (bindP p x ρ).bind fun ρ1 => (body ρ1).bind fun o => match o with
    | .nx ρ2 => forGo p body xs ρ2
    | .ct ρ2 => forGo p body xs ρ2
    | .bk ρ2 => some (.nx ρ2)
    | .rt d => some (.rt d)
def sFor (it : Rho → Option (List D)) (p : Pat) (body : Rho → Option Out) : Rho → Option Out := fun ρ => (it ρ).bind fun items => forGo p body items ρ
theorem dFor {it : Rho → Option (List D)} {p : Pat} {body : Rho → Option Out} {pr : Bool} (hp : p.fits pr = true) {Dn : Ends} {σ : L2.St} {H : Hp} (q : tS (sFor it p body) Dn σ H) : tFor (iD true pr it) (gP K p) (tS body) Dn σ H := by
  obtain ⟨M0, H0, ρ, o, R, e, q⟩ := tS_iff.mp q
  obtain ⟨items, ei, e⟩ := some_bind e
  refine ⟨M0, H0, ρ, items, R, ei, fun J H1 s1 dw => ⟨fun i m σ' H' => i ≤ items.length ∧ m = items.length - i ∧ ∃ ρ', Rs M0 H0 H' σ' ρ' ∧ Stp M0 σ ρ H1 σ' ρ' H' ∧ forGo p body (items.drop i) ρ' = some o, ⟨_, Nat.zero_le _, rfl, ρ, R.mono s1, .refl, e⟩, ?_⟩⟩
  rintro i m σ' H' ⟨hi, rfl, ρ', R', st, e⟩
  have dw := dw (fun a => Mu true M0 σ' ρ' a ∨ Mu true M0 σ ρ a) fun a m => m.elim (st.ow a) .inl
  obtain ⟨G, Y, W, hG, hY⟩ := dw.ex
  have kp : KpM (fun a => Mu true M0 σ' ρ' a ∨ Mu true M0 σ ρ a) H1 H' := fun p o n e => st.kp p o (fun m => n (.inr m)) e
  by_cases hlt : i < items.length
  · refine .inr ⟨W.goes i H' hlt (hG _ kp), fun σ3 H3 => ∃ ρ3, Rs M0 H0 H3 σ3 ρ3 ∧ Stp M0 σ ρ H1 σ3 ρ3 H3 ∧ forGo p body (items.drop (i + 1)) ρ3 = some o, fun σ3 H3 h => ⟨items.length - (i + 1), by omega, hlt, rfl, h⟩, fun x Hb y => ?_⟩
    obtain ⟨d, ed, s2, rv⟩ := hY i x H' Hb kp (W.yields i H' x Hb hlt (hG _ kp) y)
    rw [drop_at ed] at e
    unfold forGo at e
    obtain ⟨ρ1, e1, e⟩ := some_bind e
    obtain ⟨o1, eo, e⟩ := some_bind e
    refine bindP.ok (pr := pr) (R'.mono s2) ?_ hp e1 fun σ2 R2 B2 => tS_iff.mpr ⟨M0, H0, ρ1, o1, R2, eo, ?_⟩
    · rcases rv with rv | ⟨zp, a, xs, ds, z1, z2, z3, z4⟩
      · exact .inl (rv.reM fun a m => .inl (.inl m))
      · exact .inr ⟨zp, a, xs, ds, z1, z2, z3, z4.reM fun a m => .inl (.inl m)⟩
    have st2 : Stp M0 σ' ρ' H' σ2 ρ1 Hb := ⟨.of s2, fun p m => .inl (B2.mu p m)⟩
    cases o1 with
    | nx ρ2 => exact fun σ3 H3 R3 s3 => ⟨ρ2, R3, (st.trans st2).trans s3, e⟩
    | ct ρ2 => exact fun σ3 H3 R3 s3 => ⟨ρ2, R3, (st.trans st2).trans s3, e⟩
    | bk ρ2 => cases e; exact fun σ3 H3 R3 s3 => q σ3 H3 R3 ((Stp.of s1).trans ((st.trans st2).trans s3))
    | rt d => cases e; exact q
  · have : i = items.length := by omega
    subst this
    rw [List.drop_length] at e
    cases e
    exact .inl ⟨W.stops H' (hG _ kp), q σ' H' R' ((Stp.of s1).trans st)⟩
theorem dS_for {st : Stmt} {it : Rho → Option (List D)} {p : Pat} {body : Rho → Option Out} {pr : Bool} (h : PS X st (tFor (iD true pr it) (gP K p) (tS body))) (hp : p.fits pr = true := by rfl) : PS X st (tS (sFor it p body)) := h.wk fun Dn σ H q => dFor hp q
/-! lists of one's own -/
theorem Rs.ownSet {M0 : Addr → Prop} {H0 H : Hp} {σ : L2.St} {ρ : Rho} {i : Nat} {ds ds' : List D} {p : Addr} {vs vs' : List V} (R : Rs M0 H0 H σ ρ) (e : ρ[i]? = some (some (.own ds))) (es : σ[i]? = some (some (.ref p))) (eH : H p = some (.lst vs)) (l : vs'.length ≤ sizeLine) (r : RpAll (Mu true M0 σ ρ) H vs' ds') :
    Rs M0 H0 (upd H p (.lst vs')) σ (ρ.set i (some (.own ds'))) ∧ Stp M0 σ ρ H σ (ρ.set i (some (.own ds'))) (upd H p (.lst vs')) := by
  have hi : i < ρ.length := (List.getElem?_eq_some_iff.mp e).1
  have mp : Mu true M0 σ ρ p := .inr ⟨rfl, i, ds, e, es⟩
  have mu : ∀ a, Mu true M0 σ (ρ.set i (some (.own ds'))) a → Mu true M0 σ ρ a := fun a m => by
    rcases m with m | ⟨_, j, es', e1, e2⟩
    · exact .inl m
    · rcases set_get e1 with ⟨rfl, _⟩ | ⟨n, e1⟩
      · exact .inr ⟨rfl, i, ds, e, e2⟩
      · exact .inr ⟨rfl, j, es', e1, e2⟩
  have kp : KpM (Mu true M0 σ ρ) H (upd H p (.lst vs')) := fun a o n e => by
    rw [upd_ne (fun z => n (by rw [z]; exact mp))]
    exact e
  have h0 : H0 p = none := by
    obtain ⟨q, us, a, b, c, _⟩ := R.own i ds e
    rw [es] at a
    cases a
    exact c
  refine ⟨⟨fun a o e => ?_, R.dom, by rw [List.length_set]; exact R.len, fun j d e1 => ?_, fun j es' e1 => ?_, fun j v e1 => ?_, fun j k a b q e1 e2 e3 e4 => ?_⟩, kp, fun a m => .inl (mu a m)⟩
  · rw [upd_ne (fun z => by rw [z, h0] at e; cases e)]
    exact R.sm a o e
  · rcases set_get e1 with ⟨_, z⟩ | ⟨n, e1⟩
    · cases z
    · obtain ⟨v, a, b⟩ := R.dat j d e1
      exact ⟨v, a, (b.mono kp).reM fun a m => .inl (mu a m)⟩
  · rcases set_get e1 with ⟨rfl, z⟩ | ⟨n, e1⟩
    · cases z
      exact ⟨p, vs', es, upd_same, h0, l, (r.mono kp).reM fun a m => .inl (mu a m)⟩
    · obtain ⟨q, us, a, b, c, l', r'⟩ := R.own j es' e1
      refine ⟨q, us, a, ?_, c, l', (r'.mono kp).reM fun a m => .inl (mu a m)⟩
      rw [upd_ne (fun z => n (R.inj i j ds es' p e e1 es (by rw [← z]; exact a)))]
      exact b
  · rcases set_get e1 with ⟨_, z⟩ | ⟨n, e1⟩
    · cases z
    · exact R.raw j v e1
  · have f1 : ∃ a', ρ[j]? = some (some (.own a')) := by
      rcases set_get e1 with ⟨rfl, _⟩ | ⟨_, z⟩
      · exact ⟨ds, e⟩
      · exact ⟨a, z⟩
    have f2 : ∃ a', ρ[k]? = some (some (.own a')) := by
      rcases set_get e2 with ⟨rfl, _⟩ | ⟨_, z⟩
      · exact ⟨ds, e⟩
      · exact ⟨b, z⟩
    obtain ⟨a', f1⟩ := f1
    obtain ⟨b', f2⟩ := f2
    exact R.inj j k a' b' q f1 f2 e3 e4
theorem Rs.ownNew {M0 : Addr → Prop} {H0 H H' : Hp} {σ : L2.St} {ρ : Rho} {i : Nat} {ds : List D} {p : Addr} {vs : List V} (R : Rs M0 H0 H σ ρ) (hi : i < ρ.length) (np : H p = none) (s : Same H H') (eH : H' p = some (.lst vs)) (l : vs.length ≤ sizeLine) (r : RpAll (Mi true M0 σ ρ p) H' vs ds) :
    Rs M0 H0 H' (σ.set i (some (.ref p))) (ρ.set i (some (.own ds))) ∧ Stp M0 σ ρ H (σ.set i (some (.ref p))) (ρ.set i (some (.own ds))) H' := by
  have mu : ∀ a, Mu true M0 (σ.set i (some (.ref p))) (ρ.set i (some (.own ds))) a → Mi true M0 σ ρ p a := fun a m => by
    rcases m with m | ⟨_, j, es', e1, e2⟩
    · exact .inl (.inl m)
    · rcases set_get e1 with ⟨rfl, _⟩ | ⟨n, e1⟩
      · rw [set_same (by rw [← R.len]; exact hi)] at e2
        cases e2
        exact .inr rfl
      · rw [set_other n] at e2
        exact .inl (.inr ⟨rfl, j, es', e1, e2⟩)
  have h0 : H0 p = none := by
    cases z : H0 p with
    | none => rfl
    | some o => rw [R.sm _ _ z] at np; cases np
  have re : ∀ a, Mu true M0 (σ.set i (some (.ref p))) (ρ.set i (some (.own ds))) a → Mu true M0 σ ρ a ∨ H a = none := fun a m => by
    rcases mu a m with m | rfl
    · exact .inl m
    · exact .inr np
  refine ⟨⟨R.sm.trans s, R.dom, by rw [List.length_set, List.length_set]; exact R.len, fun j d e1 => ?_, fun j es' e1 => ?_, fun j v e1 => ?_, fun j k a b q e1 e2 e3 e4 => ?_⟩, .of s, re⟩
  · rcases set_get e1 with ⟨_, z⟩ | ⟨n, e1⟩
    · cases z
    · obtain ⟨v, a, b⟩ := R.dat j d e1
      exact ⟨v, by rw [set_other n]; exact a, (b.reM re).mono (.of s)⟩
  · rcases set_get e1 with ⟨rfl, z⟩ | ⟨n, e1⟩
    · cases z
      exact ⟨p, vs, set_same (by rw [← R.len]; exact hi), eH, h0, l, r.reM fun a m => .inl (mu a m)⟩
    · obtain ⟨q, us, a, b, c, l', r'⟩ := R.own j es' e1
      exact ⟨q, us, by rw [set_other n]; exact a, s _ _ b, c, l', (r'.reM re).mono (.of s)⟩
  · rcases set_get e1 with ⟨_, z⟩ | ⟨n, e1⟩
    · cases z
    · rw [set_other n]; exact R.raw j v e1
  · have own : ∀ (m : Nat) (es : List D), ρ[m]? = some (some (.own es)) → σ[m]? = some (some (.ref q)) → q ≠ p := fun m es f1 f2 z => by
      obtain ⟨q', us, a, b, _⟩ := R.own m es f1
      rw [f2] at a
      cases a
      rw [z, np] at b
      cases b
    rcases set_get e1 with ⟨rfl, _⟩ | ⟨n1, f1⟩
    · rcases set_get e2 with ⟨rfl, _⟩ | ⟨n2, f2⟩
      · rfl
      · rw [set_same (by rw [← R.len]; exact hi)] at e3
        cases e3
        rw [set_other n2] at e4
        exact (own k b f2 e4 rfl).elim
    · rw [set_other n1] at e3
      rcases set_get e2 with ⟨rfl, _⟩ | ⟨n2, f2⟩
      · rw [set_same (by rw [← R.len]; exact hi)] at e4
        cases e4
        exact (own j a f1 e3 rfl).elim
      · rw [set_other n2] at e4
        exact R.inj j k a b q f1 f2 e3 e4
def sOwn (i : Nat) (f : EF) : Rho → Option Out := fun ρ => (f ρ).bind fun d => match d with
  | .list ds => if i < ρ.length then some (.nx (ρ.set i (some (.own ds)))) else none
  | _ => none
theorem dS_own {st : Stmt} {i : Nat} {f : EF} (h : PS X st (tAsg (tN f) (gName i))) : PS X st (tS (sOwn i f)) := h.wk fun Dn σ H q => by
  obtain ⟨M0, H0, ρ, o, R, e, q⟩ := tS_iff.mp q
  obtain ⟨d, ed, e⟩ := some_bind e
  cases d <;> try (cases e; done)
  obtain ⟨hi, rfl⟩ := iteS e
  refine ⟨M0, H0, ρ, _, R, ed, fun p vs H1 np s1 eH l r => ?_⟩
  obtain ⟨R1, s1⟩ := R.ownNew hi np s1 eH l r
  exact q _ _ R1 s1
theorem oE_lst {es : List Expr} {pos : Pos} {g : Rho → Option (List D)} (h : PA X es (tA true g)) : PE X (.List es pos) (tN (eLst g)) := (pe_lst h).wk fun σ H Q q => by
  obtain ⟨M0, H0, ρ, d, R, e, q⟩ := q
  obtain ⟨ds, ed, e⟩ := some_bind e
  obtain ⟨l, z⟩ := iteS e
  cases z
  refine ⟨M0, H0, ρ, _, R, ed, fun vs H1 s1 r1 => ⟨by rw [r1.len]; exact l, fun p np => q p vs _ ?_ (s1.trans (smN np)) upd_same (by rw [r1.len]; exact l) ((r1.reM fun a m => ?_).mono (.of (smN np)))⟩⟩
  · cases z : H p with
    | none => rfl
    | some o => rw [s1 _ _ z] at np; cases np
  · rcases m with m | rfl
    · exact .inl m
    · exact .inr np
def sApp (i : Nat) (f : Rho → Option (List D)) : Rho → Option Out := fun ρ => match ρ[i]? with
  | some (some (.own ds)) => (f ρ).bind fun es => match es with
    | [d] => if ds.length < sizeLine then some (.nx (ρ.set i (some (.own (ds ++ [d]))))) else none
    | _ => none
  | _ => none
theorem dS_app {st : Stmt} {i : Nat} {f : Rho → Option (List D)} (h : PS X st (tDrop (tBM K "list" rAppend (tVar i) (tA true f)))) : PS X st (tS (sApp i f)) := h.wk fun Dn σ H q => by
  obtain ⟨M0, H0, ρ, o, R, e, q⟩ := tS_iff.mp q
  unfold sApp at e
  split at e
  · rename_i ds z
    obtain ⟨es, ed, e⟩ := some_bind e
    obtain ⟨p, vs, a, b, c, l, r⟩ := R.own i ds z
    refine ⟨.ref p, a, .inl ⟨rfl, _, SqL.of b⟩, M0, H0, ρ, es, R, ed, fun us H1 s1 r1 => ?_⟩
    match es, r1, e with
    | [d], .cons r1 .nil, e =>
      obtain ⟨l2, rfl⟩ := iteS e
      have hl : vs.length < sizeLine := by rw [r.len]; exact l2
      refine ⟨p, vs, _, rfl, rfl, s1 _ _ b, hl, ?_⟩
      obtain ⟨R1, S1⟩ := (R.mono s1).ownSet z a (s1 _ _ b) (vs' := vs ++ [_]) (by rw [List.length_append]; exact hl) ((r.mono (.of s1)).app (.cons r1 .nil))
      exact q _ _ R1 ((Stp.of s1).trans S1)
  · cases e
end
/-! ### a def -/
def startR (n : Nat) (ds : List D) : Rho := ds.map (fun d => some (.dat d)) ++ List.replicate (n - ds.length) none
theorem RpAll.start {M : Addr → Prop} {H : Hp} {N : List Str} {vs : List V} {ds : List D} (dm : Dom M H) (r : RpAll M H vs ds) : Rs M H H (L2.start N vs) (startR N.length ds) := by
  have get : ∀ (i : Nat) (x : LV), (startR N.length ds)[i]? = some (some x) → ∃ d, ds[i]? = some d ∧ x = .dat d := fun i x e => by
    unfold startR at e
    rw [List.getElem?_append] at e
    split at e
    · rw [List.getElem?_map] at e
      cases z : ds[i]? with
      | none => rw [z] at e; cases e
      | some d => rw [z] at e; cases e; exact ⟨d, rfl, rfl⟩
    · rw [List.getElem?_replicate] at e
      split at e <;> cases e
  have mu : ∀ a, Mu true M (L2.start N vs) (startR N.length ds) a → M a ∨ H a = none := fun a m => by
    rcases m with m | ⟨_, j, es, e, _⟩
    · exact .inl m
    · obtain ⟨d, _, z⟩ := get j _ e
      cases z
  refine ⟨Same.refl _, dm, ?_, fun i d e => ?_, fun i es e => ?_, fun i v e => ?_, fun i j a b p e => ?_⟩
  · unfold startR L2.start
    simp [r.len]
  · obtain ⟨d', ed, z⟩ := get i _ e
    cases z
    obtain ⟨v, a, b⟩ := r.get ed
    refine ⟨v, ?_, b.reM mu⟩
    unfold L2.start
    rw [List.getElem?_append, if_pos (by rw [List.length_map]; exact (List.getElem?_eq_some_iff.mp a).1), List.getElem?_map, a]
    rfl
  · obtain ⟨d', _, z⟩ := get i _ e
    cases z
  · obtain ⟨d', _, z⟩ := get i _ e
    cases z
  · obtain ⟨d', _, z⟩ := get i _ e
    cases z
def Tells (o : Out) (d : D) : Prop := match o with
  | .rt e => e = d
  | .nx _ => d = .none
  | _ => False
theorem okFn {P : Program} {w : World} {K : PySem.W.Frag} {mg : Str → Option Value} {base : Heap} {x qual : Str} {st : Stmt} {f : Addr} {fd : FuncData} {N ps : List Str} {k n : Nat} {g : List D → Option D} (F : Fun K x qual st f fd) (S : FnScope N ps (defScope st)) (hn : n = ps.length)
    (walk : ∀ (cdv : Value) (A : Around) (outer : List Env) (s : Shared) (H : Hp) (E : XK), Room k (A.deeper (envOfC qual (defScope st) s.heap.objs.size f cdv)) →
      ∃ fS, PSs (cxOf CX0 P w K mg base N qual (defScope st) f cdv A outer s H E).nox (defBody st) (tS fS) ∧ ∀ ds d, ds.length = n → g ds = some d → ∃ o, fS (startR N.length ds) = some o ∧ Tells o d) :
    FnOk P w K mg base CX0 (k + 1) f fd ps (spD n g) := by
  refine F.ok S (fun vs H Q E h => ?_) (fun cdv A outer s H vs Q E hr h => ?_)
  · obtain ⟨M, ds, d, dm, r, l, _⟩ := h
    rw [r.len, l, hn]
  · obtain ⟨M, ds, d, dm, r, l, e, q⟩ := h
    obtain ⟨fS, hS, hw⟩ := walk cdv A outer s H E hr
    obtain ⟨o, eo, t⟩ := hw ds d l e
    refine ⟨_, hS, tS_iff.mpr ⟨M, H, _, o, r.start dm, eo, ?_⟩⟩
    cases o with
    | nx ρ' => cases t; exact fun σ' H' R s => q _ _ R.sm .non
    | rt d' => cases t; exact fun v H' s r => q v H' s r
    | bk ρ' => exact t.elim
    | ct ρ' => exact t.elim
end Dl
namespace Rt
open PySem PySem.Spec PyProof.Rows L2
/-! ### the drawn list: cells, the turn, the rests -/
structure Gd where
  d : Addr
  c : Addr
  r : Addr
  n : Nat
structure Dr (g : Gd) (t : Int) (H : Hp) : Prop where
  hd : H g.d = some (.lst [.ref g.c, .int t, .ref g.r])
  hc : ∃ cs : List Int, H g.c = some (.lst (cs.map V.int)) ∧ cs.length = g.n
  hr : ∃ rs : List Int, H g.r = some (.lst (rs.map V.int)) ∧ rs.length = g.n
  dc : g.d ≠ g.c
  dr : g.d ≠ g.r
  cr : g.c ≠ g.r
  n0 : 0 < g.n
  n63 : g.n ≤ 63
  t0 : 0 ≤ t
/-- so many draws may still come -/
def Fu (g : Gd) (B : Nat) (H : Hp) : Prop := ∃ t : Int, Dr g t H ∧ t + B ≤ 1000000
/-- all but the drawn list's own things is as it was -/
def Kp (g : Gd) (H H' : Hp) : Prop := ∀ p o, p ≠ g.d → p ≠ g.r → H p = some o → H' p = some o
/-- tuples are as they were -/
def Tk (H H' : Hp) : Prop := ∀ p xs, H p = some (.tup xs) → H' p = some (.tup xs)
structure Gd.Off (g : Gd) (p : Addr) : Prop where
  d : p ≠ g.d
  c : p ≠ g.c
  r : p ≠ g.r
theorem Kp.refl (g : Gd) (H : Hp) : Kp g H H := fun _ _ _ _ h => h
theorem Kp.trans {g : Gd} {H H1 H2 : Hp} (a : Kp g H H1) (b : Kp g H1 H2) : Kp g H H2 := fun p o h1 h2 h => b p o h1 h2 (a p o h1 h2 h)
theorem Kp.new {g : Gd} {H : Hp} {p : Addr} {o : HO} (h : H p = none) : Kp g H (upd H p o) := fun q u _ _ e => by
  rw [upd_ne (ne_of_none e h)]
  exact e
/-- what H does not know may change -/
theorem Kp.mut {g : Gd} {H H' : Hp} {p : Addr} {o : HO} (e : Kp g H H') (h : H p = none) : Kp g H (upd H' p o) := fun a u h1 h2 ha => by
  rw [upd_ne (ne_of_none ha h)]
  exact e a u h1 h2 ha
theorem Kp.off {g : Gd} {H H' : Hp} {p : Addr} {o : HO} (a : Kp g H H') (f : g.Off p) (h : H p = some o) : H' p = some o := a p o f.d f.r h
theorem Tk.refl (H : Hp) : Tk H H := fun _ _ h => h
theorem Tk.trans {H H1 H2 : Hp} (a : Tk H H1) (b : Tk H1 H2) : Tk H H2 := fun p xs h => b p xs (a p xs h)
theorem Tk.new {H : Hp} {p : Addr} {o : HO} (h : H p = none) : Tk H (upd H p o) := fun q u e => by
  rw [upd_ne (ne_of_none e h)]
  exact e
theorem Tk.lst {H : Hp} {p : Addr} {xs ys : List V} (h : H p = some (.lst xs)) : Tk H (upd H p (.lst ys)) := fun q u e => by
  rw [upd_ne (fun z => by rw [z, h] at e; cases e)]
  exact e
theorem Fu.mono {g : Gd} {B B' : Nat} {H : Hp} (h : Fu g B H) (e : B' ≤ B) : Fu g B' H := by
  obtain ⟨t, a, b⟩ := h
  exact ⟨t, a, by omega⟩
theorem Fu.tk {g : Gd} {B : Nat} {H H' : Hp} (h : Fu g B H) (k : Kp g H H') : Tk H H' := fun p xs e => by
  obtain ⟨t, a, b⟩ := h
  obtain ⟨rs, hr, _⟩ := a.hr
  exact k p _ (fun z => by rw [z, a.hd] at e; cases e) (fun z => by rw [z, hr] at e; cases e) e
theorem Fu.off {g : Gd} {B : Nat} {H : Hp} {p : Addr} (h : Fu g B H) (e : H p = none) : g.Off p := by
  obtain ⟨t, a, b⟩ := h
  obtain ⟨rs, hr, _⟩ := a.hr
  obtain ⟨cs, hc, _⟩ := a.hc
  exact ⟨fun z => (by rw [z, a.hd] at e; cases e), fun z => (by rw [z, hc] at e; cases e), fun z => (by rw [z, hr] at e; cases e)⟩
theorem Fu.upd {g : Gd} {B : Nat} {H : Hp} {p : Addr} {o : HO} (h : Fu g B H) (f : g.Off p) : Fu g B (L2.upd H p o) := by
  obtain ⟨t, a, b⟩ := h
  obtain ⟨cs, hc, ec⟩ := a.hc
  obtain ⟨rs, hr, er⟩ := a.hr
  refine ⟨t, ⟨?_, ⟨cs, ?_, ec⟩, ⟨rs, ?_, er⟩, a.dc, a.dr, a.cr, a.n0, a.n63, a.t0⟩, b⟩
  · rw [upd_ne f.d.symm]; exact a.hd
  · rw [upd_ne f.c.symm]; exact hc
  · rw [upd_ne f.r.symm]; exact hr
theorem Fu.new {g : Gd} {B : Nat} {H : Hp} {p : Addr} {o : HO} (h : Fu g B H) (e : H p = none) : Fu g B (L2.upd H p o) := h.upd (h.off e)
/-! ### comprehensions that draw -/
theorem lcR {g : Gd} {lo : Int} {n : Nat} {gt : TG} {tt : TT} {te : TE} {vs : List Nat} {σ : L2.St} {H1 : Hp} {D : Addr} {Qd : Hp → Prop} {B : Nat} (c : Nat) (Pt : Hp → V → Prop) (Pl : Nat → List V → Prop) (hD : H1 D = none) (hF : Fu g B H1) (hn : n ≤ 1000) (hB : n * c ≤ B)
    (mono : ∀ H H' x, Tk H H' → Pt H x → Pt H' x) (p0 : Pl 0 [])
    (hs : ∀ i H (B' : Nat), i < n → Fu g B' H → c ≤ B' → Kp g H1 H → ∀ (Qk : VK) (Qs : Hp → Prop),
      (∀ y H', Fu g (B' - c) H' → Kp g H H' → Pt H' y → (∀ acc, Pl i acc → Pl (i + 1) (acc ++ [y])) → Qk y H') → (∀ H', Fu g (B' - c) H' → Kp g H H' → (∀ acc, Pl i acc → Pl (i + 1) acc) → Qs H') →
      gt (.int (lo + i)) (wipe σ vs) H fun σ2 H2 => wipe σ2 vs = wipe σ vs ∧ tt σ2 H2 fun b H3 => if b = true then te σ2 H3 Qk else Qs H3)
    (hd : ∀ H acc, Fu g (B - n * c) H → Kp g H1 H → H D = some (.lst acc) → acc.length ≤ n → Pl n acc → (∀ x ∈ acc, Pt H x) → Qd H) :
    ∃ W : Nat → Nat → Hp → Prop, (∃ m, W 0 m (upd H1 D (.lst []))) ∧ ∀ i m H, W i m H →
      ((Itr lo n).stop i H ∧ Qd H) ∨ ((Itr lo n).go i H ∧ ∃ Nx : Hp → Prop, (∀ H', Nx H' → ∃ m', m' < m ∧ W (i + 1) m' H') ∧ ∀ x H', (Itr lo n).yld i H x H' → gt x (wipe σ vs) H' fun σ2 H2 => wipe σ2 vs = wipe σ vs ∧ tt σ2 H2 fun b H3 =>
        if b = true then te σ2 H3 fun y H4 => ∃ acc, H4 D = some (.lst acc) ∧ acc.length < sizeLine ∧ Nx (upd H4 D (.lst (acc ++ [y]))) else Nx H3) := by
  have oD := hF.off hD
  refine lc_range (Pv := fun i H => i ≤ n ∧ ∃ B', B' + i * c = B ∧ Fu g B' H ∧ Kp g H1 H ∧ ∃ acc, H D = some (.lst acc) ∧ acc.length ≤ i ∧ Pl i acc ∧ ∀ x ∈ acc, Pt H x) ⟨Nat.zero_le _, B, by omega, hF.upd oD, Kp.new hD, [], upd_same, Nat.le_refl _, p0, fun x h => nomatch h⟩ (fun i H hi p => ?_) (fun H p => ?_)
  · obtain ⟨_, B', eB, f, k, acc, eD, el, pl, al⟩ := p
    have h1 : (i + 1) * c ≤ n * c := Nat.mul_le_mul_right c hi
    have h2 : (i + 1) * c = i * c + c := Nat.succ_mul i c
    refine hs i H B' hi f (by omega) k _ _ (fun y H' f' k' py ply => ?_) (fun H' f' k' ply => ?_)
    · have eD' := k'.off oD eD
      refine ⟨acc, eD', szl (by omega), hi, B' - c, by omega, f'.upd oD, (k.trans k').mut hD, acc ++ [y], upd_same, by rw [List.length_append]; simp; omega, ply acc pl, fun x hx => ?_⟩
      rcases List.mem_append.mp hx with hx | hx
      · exact mono _ _ _ (Tk.lst eD') (mono _ _ _ (f.tk k') (al x hx))
      · have e : x = y := by simpa using hx
        subst e
        exact mono _ _ _ (Tk.lst eD') py
    · exact ⟨hi, B' - c, by omega, f', k.trans k', acc, k'.off oD eD, by omega, ply acc pl, fun x hx => mono _ _ _ (f.tk k') (al x hx)⟩
  · obtain ⟨_, B', eB, f, k, acc, eD, el, pl, al⟩ := p
    exact hd H acc (f.mono (by omega)) k eD el pl al
theorem lcT {K : PySem.W.Frag} {a : Addr} {xs : List V} {g : Gd} {gt : TG} {tt : TT} {te : TE} {vs : List Nat} {σ : L2.St} {H1 : Hp} {D : Addr} {Qd : Hp → Prop} {B : Nat} (c : Nat) (Pt : Hp → V → Prop) (Pl : Nat → List V → Prop) (hD : H1 D = none) (hF : Fu g B H1) (hn : xs.length ≤ 1000) (hB : xs.length * c ≤ B)
    (hx : H1 a = some (.tup xs)) (mono : ∀ H H' x, Tk H H' → Pt H x → Pt H' x) (p0 : Pl 0 [])
    (hs : ∀ i x H (B' : Nat), xs[i]? = some x → Fu g B' H → c ≤ B' → Kp g H1 H → ∀ (Qk : VK) (Qs : Hp → Prop),
      (∀ y H', Fu g (B' - c) H' → Kp g H H' → Pt H' y → (∀ acc, Pl i acc → Pl (i + 1) (acc ++ [y])) → Qk y H') → (∀ H', Fu g (B' - c) H' → Kp g H H' → (∀ acc, Pl i acc → Pl (i + 1) acc) → Qs H') →
      gt x (wipe σ vs) H fun σ2 H2 => wipe σ2 vs = wipe σ vs ∧ tt σ2 H2 fun b H3 => if b = true then te σ2 H3 Qk else Qs H3)
    (hd : ∀ H acc, Fu g (B - xs.length * c) H → Kp g H1 H → H D = some (.lst acc) → acc.length ≤ xs.length → Pl xs.length acc → (∀ x ∈ acc, Pt H x) → Qd H) :
    ∃ W : Nat → Nat → Hp → Prop, (∃ m, W 0 m (upd H1 D (.lst []))) ∧ ∀ i m H, W i m H →
      ((Itt K a).stop i H ∧ Qd H) ∨ ((Itt K a).go i H ∧ ∃ Nx : Hp → Prop, (∀ H', Nx H' → ∃ m', m' < m ∧ W (i + 1) m' H') ∧ ∀ x H', (Itt K a).yld i H x H' → gt x (wipe σ vs) H' fun σ2 H2 => wipe σ2 vs = wipe σ vs ∧ tt σ2 H2 fun b H3 =>
        if b = true then te σ2 H3 fun y H4 => ∃ acc, H4 D = some (.lst acc) ∧ acc.length < sizeLine ∧ Nx (upd H4 D (.lst (acc ++ [y]))) else Nx H3) := by
  have oD := hF.off hD
  refine lc_tup (xs := xs) (Pv := fun i H => i ≤ xs.length ∧ ∃ B', B' + i * c = B ∧ Fu g B' H ∧ Kp g H1 H ∧ ∃ acc, H D = some (.lst acc) ∧ acc.length ≤ i ∧ Pl i acc ∧ ∀ x ∈ acc, Pt H x) ⟨Nat.zero_le _, B, by omega, hF.upd oD, Kp.new hD, [], upd_same, Nat.le_refl _, p0, fun x h => nomatch h⟩ (fun i H _ p => ?_) (fun i x H hi p => ?_) (fun H p => ?_)
  · obtain ⟨_, B', eB, f, k, acc, eD, el, pl, al⟩ := p
    exact SqT.of (hF.tk k a xs hx)
  · obtain ⟨_, B', eB, f, k, acc, eD, el, pl, al⟩ := p
    have hi' : i < xs.length := (List.getElem?_eq_some_iff.mp hi).1
    have h1 : (i + 1) * c ≤ xs.length * c := Nat.mul_le_mul_right c hi'
    have h2 : (i + 1) * c = i * c + c := Nat.succ_mul i c
    refine hs i x H B' hi f (by omega) k _ _ (fun y H' f' k' py ply => ?_) (fun H' f' k' ply => ?_)
    · have eD' := k'.off oD eD
      refine ⟨acc, eD', szl (by omega), hi', B' - c, by omega, f'.upd oD, (k.trans k').mut hD, acc ++ [y], upd_same, by rw [List.length_append]; simp; omega, ply acc pl, fun x hx => ?_⟩
      rcases List.mem_append.mp hx with hx | hx
      · exact mono _ _ _ (Tk.lst eD') (mono _ _ _ (f.tk k') (al x hx))
      · have e : x = y := by simpa using hx
        subst e
        exact mono _ _ _ (Tk.lst eD') py
    · exact ⟨hi', B' - c, by omega, f', k.trans k', acc, k'.off oD eD, by omega, ply acc pl, fun x hx => mono _ _ _ (f.tk k') (al x hx)⟩
  · obtain ⟨_, B', eB, f, k, acc, eD, el, pl, al⟩ := p
    exact hd H acc (f.mono (by omega)) k eD el pl al
end Rt
namespace Rt
open PySem PySem.Spec PyProof.Rows L2
theorem Fu.loc {g : Gd} {b : Nat} {H H' : Hp} (i : Fu g b H) (h1 : H' g.d = H g.d) (h2 : H' g.c = H g.c) (h3 : H' g.r = H g.r) : Fu g b H' := by
  obtain ⟨t, a, l⟩ := i
  obtain ⟨cs, hc, ec⟩ := a.hc
  obtain ⟨rs, hr, er⟩ := a.hr
  exact ⟨t, ⟨by rw [h1]; exact a.hd, ⟨cs, by rw [h2]; exact hc, ec⟩, ⟨rs, by rw [h3]; exact hr, er⟩, a.dc, a.dr, a.cr, a.n0, a.n63, a.t0⟩, l⟩
end Rt
namespace Dl
open PySem PySem.Spec PyProof.Rows L2 Rt
/-! ### what is drawn from: a thing with a store of draws -/
abbrev Pl := Rt.Gd
def _root_.Rt.Gd.h (g : Rt.Gd) : V := .ref g.d
def _root_.Rt.Gd.own (g : Rt.Gd) (p : Addr) : Prop := p = g.d ∨ p = g.c ∨ p = g.r
def _root_.Rt.Gd.inv (g : Rt.Gd) (b : Nat) (H : Hp) : Prop := Fu g b H
theorem _root_.Rt.Gd.alive (g : Rt.Gd) {b : Nat} {H : Hp} {p : Addr} (i : g.inv b H) (o : g.own p) : H p ≠ none := fun e => by
  have f := Fu.off i e
  rcases o with o | o | o
  · exact f.d o
  · exact f.c o
  · exact f.r o
theorem _root_.Rt.Gd.loc (g : Rt.Gd) {b : Nat} {H H' : Hp} (i : g.inv b H) (h : ∀ p, g.own p → H' p = H p) : g.inv b H' := Fu.loc i (h _ (.inl rfl)) (h _ (.inr (.inl rfl))) (h _ (.inr (.inr rfl)))
theorem Pl.same {g : Pl} {b : Nat} {H H' : Hp} (i : g.inv b H) (s : Same H H') : g.inv b H' := g.loc i fun p o => by
  cases e : H p with
  | none => exact (g.alive i o e).elim
  | some u => exact s p u e
/-- readings that draw -/
structure WP (α : Type) where
  w : Rho → Nat → (α → Nat → Prop) → Prop
  m : ∀ {ρ b P Q}, (∀ a b', P a b' → Q a b') → w ρ b P → w ρ b Q
structure Rn (g : Pl) (M0 : Addr → Prop) (H0 H : Hp) (σ : L2.St) (ρ : Rho) (b : Nat) : Prop where
  kp : KpM g.own H0 H
  dom0 : Dom M0 H0
  dom : Dom M0 H
  pl : ∀ p, g.own p → M0 p
  iv : g.inv b H
  len : ρ.length = σ.length
  dat : ∀ (i : Nat) (d : D), ρ[i]? = some (some (.dat d)) → ∃ v, σ[i]? = some (some v) ∧ Rp (Mu true M0 σ ρ) H v d
  own : ∀ (i : Nat) (ds : List D), ρ[i]? = some (some (.own ds)) → ∃ p vs, σ[i]? = some (some (.ref p)) ∧ H p = some (.lst vs) ∧ H0 p = none ∧ vs.length ≤ sizeLine ∧ RpAll (Mu true M0 σ ρ) H vs ds
  raw : ∀ (i : Nat) (v : V), ρ[i]? = some (some (.raw v)) → σ[i]? = some (some v)
  pool : ∀ (i : Nat), ρ[i]? = some (some .pool) → σ[i]? = some (some g.h)
  inj : ∀ (i j : Nat) (a b : List D) (p : Addr), ρ[i]? = some (some (.own a)) → ρ[j]? = some (some (.own b)) → σ[i]? = some (some (.ref p)) → σ[j]? = some (some (.ref p)) → i = j
theorem Rn.up {g : Pl} {M0 : Addr → Prop} {H0 H : Hp} {σ : L2.St} {ρ : Rho} {b : Nat} (R : Rn g M0 H0 H σ ρ b) {H' : Hp} {b' : Nat} (k : KpM g.own H H') (iv : g.inv b' H') : Rn g M0 H0 H' σ ρ b' where
  kp := fun p o n e => k p o n (R.kp p o n e)
  dom0 := R.dom0
  dom := fun p m e => by
    by_cases o : g.own p
    · exact g.alive iv o e
    · cases z : H p with
      | none => exact R.dom p m z
      | some u => rw [k p u o z] at e; cases e
  pl := R.pl
  iv := iv
  len := R.len
  dat := fun i d e => by
    obtain ⟨v, a, c⟩ := R.dat i d e
    exact ⟨v, a, c.mono fun p o n e => k p o (fun z => n (.inl (R.pl p z))) e⟩
  own := fun i ds e => by
    obtain ⟨p, vs, a, c, z, l, r⟩ := R.own i ds e
    exact ⟨p, vs, a, k p _ (fun o => R.dom0 p (R.pl p o) z) c, z, l, r.mono fun p o n e => k p o (fun z => n (.inl (R.pl p z))) e⟩
  raw := R.raw
  pool := R.pool
  inj := R.inj
theorem Rn.mono {g : Pl} {M0 : Addr → Prop} {H0 H : Hp} {σ : L2.St} {ρ : Rho} {b : Nat} (R : Rn g M0 H0 H σ ρ b) {H' : Hp} (s : Same H H') : Rn g M0 H0 H' σ ρ b := R.up (.of s) (Pl.same R.iv s)
theorem Rn.domu {g : Pl} {M0 : Addr → Prop} {H0 H : Hp} {σ : L2.St} {ρ : Rho} {b : Nat} (R : Rn g M0 H0 H σ ρ b) (μ : Bool) : Dom (Mu μ M0 σ ρ) H := fun p m e => by
  rcases m with m | ⟨_, i, ds, e1, e2⟩
  · exact R.dom p m e
  · obtain ⟨q, vs, a, b, _⟩ := R.own i ds e1
    rw [e2] at a
    cases a
    rw [b] at e
    cases e
theorem KpM.tr {M : Addr → Prop} {H H1 H2 : Hp} (a : KpM M H H1) (b : KpM M H1 H2) : KpM M H H2 := fun p o n e => b p o n (a p o n e)
/-- the slots as a reading without draws sees them -/
theorem shut_nown {μ : Bool} {ρ : Rho} {i : Nat} {ds : List D} (e : (shutR μ ρ)[i]? = some (some (.own ds))) : False := by
  rcases seal_get e with ⟨_, z⟩ | ⟨_, _, _, z⟩
  · exact z ds rfl
  · cases z
theorem Rn.rs {g : Pl} {M0 : Addr → Prop} {H0 H : Hp} {σ : L2.St} {ρ : Rho} {b : Nat} (R : Rn g M0 H0 H σ ρ b) (μ : Bool) : Rs (Mu μ M0 σ ρ) H H σ (shutR μ ρ) := by
  have no : ∀ a, Mu true (Mu μ M0 σ ρ) σ (shutR μ ρ) a → Mu μ M0 σ ρ a := fun a m => by
    rcases m with m | ⟨_, i, ds, e, _⟩
    · exact m
    · exact (shut_nown e).elim
  refine ⟨Same.refl _, R.domu μ, by unfold shutR; rw [List.length_map]; exact R.len, fun i d e => ?_, fun i ds e => (shut_nown e).elim, fun i v e => ?_, fun i j a b p e => (shut_nown e).elim⟩
  · rcases seal_get e with ⟨e8, _⟩ | ⟨rfl, ds, e8, z9⟩
    · obtain ⟨v, a, c⟩ := R.dat i d e8
      exact ⟨v, a, c.reM fun a m => Mu.up a (no a m)⟩
    · cases z9
      obtain ⟨p, vs, a, c, z, l, r⟩ := R.own i ds e8
      refine ⟨.ref p, a, .lst c (fun m => ?_) l (r.reM fun a m => Mu.up a (no a m))⟩
      rcases no p m with m | ⟨z, _⟩
      · exact R.dom0 p m z
      · cases z
  · rcases seal_get e with ⟨e8, _⟩ | ⟨_, _, _, z9⟩
    · exact R.raw i v e8
    · cases z9
def tn (f : WP D) : TE := fun σ H Q => ∃ g M0 H0 ρ b, Rn g M0 H0 H σ ρ b ∧ f.w ρ b fun d b' => ∀ v H', KpM g.own H H' → g.inv b' H' → Rp (Mu true M0 σ ρ) H' v d → Q v H'
def tnA (f : WP (List D)) : TA := fun σ H Q => ∃ g M0 H0 ρ b, Rn g M0 H0 H σ ρ b ∧ f.w ρ b fun ds b' => ∀ vs H', KpM g.own H H' → g.inv b' H' → RpAll (Mu true M0 σ ρ) H' vs ds → Q vs H'
def tnT (f : WP Bool) : TT := fun σ H Q => ∃ g M0 H0 ρ b, Rn g M0 H0 H σ ρ b ∧ f.w ρ b fun k b' => ∀ H', KpM g.own H H' → g.inv b' H' → Q k H'
/-! readings -/
def wP {α : Type} (f : Rho → Option α) : WP α := ⟨fun ρ b Q => ∃ d, f (shutR true ρ) = some d ∧ Q d b, fun h ⟨d, e, q⟩ => ⟨d, e, h _ _ q⟩⟩
def wB {α β : Type} (f : WP α) (g : α → Option β) : WP β := ⟨fun ρ b Q => f.w ρ b fun a b' => ∃ d, g a = some d ∧ Q d b', fun h z => f.m (fun a b' ⟨d, e, q⟩ => ⟨d, e, h _ _ q⟩) z⟩
def w2 {α β γ : Type} (f : WP α) (g : WP β) (h : α → β → Option γ) : WP γ := ⟨fun ρ b Q => f.w ρ b fun a b1 => g.w ρ b1 fun c b2 => ∃ d, h a c = some d ∧ Q d b2, fun k z => f.m (fun a b' y => g.m (fun c b2 ⟨d, e, q⟩ => ⟨d, e, k _ _ q⟩) y) z⟩
section
variable {X : Cx} {K : PySem.W.Frag}
theorem nE_pure {e : Expr} {f : EF} (h : PE X e (tD true f)) : PE X e (tn (wP f)) := h.wk fun σ H Q q => by
  obtain ⟨g, M0, H0, ρ, b, R, d, e, q⟩ := q
  exact ⟨_, H, _, d, R.rs true, e, fun v H1 s1 r1 => q v H1 (.of s1) (Pl.same R.iv s1) (r1.reM fun a m => .inl (.inl m))⟩
def wL (f : EF) : WP D := ⟨fun ρ b Q => ∃ d, f (shutR false ρ) = some d ∧ nl d = true ∧ Q d b, fun h ⟨d, e, n, q⟩ => ⟨d, e, n, h _ _ q⟩⟩
theorem nE_loose {e : Expr} {f : EF} {μ : Bool} (h : PE X e (tD μ f)) : PE X e (tn (wL f)) := h.wk fun σ H Q q => by
  obtain ⟨g, M0, H0, ρ, b, R, d, e, n, q⟩ := q
  refine ⟨_, H, _, d, R.rs false, e, fun v H1 s1 r1 => q v H1 (.of s1) (Pl.same R.iv s1) ((r1.reM (M' := M0) fun a m => .inl (.inl (.inl m))).nl n fun a m => ?_)⟩
  rcases m with m | ⟨_, i, ds, e1, e2⟩
  · exact .inl m
  · obtain ⟨p, vs, x, y, _⟩ := (R.mono s1).own i ds e1
    rw [e2] at x
    cases x
    exact .inr ⟨_, y⟩
theorem nT_pure {e : Expr} {f : Rho → Option Bool} (h : PT X e (tT f)) : PT X e (tnT (wP f)) := h.wk fun σ H Q q => by
  obtain ⟨g, M0, H0, ρ, b, R, d, e, q⟩ := q
  exact ⟨_, H, _, d, R.rs true, e, fun H1 s1 => q H1 (.of s1) (Pl.same R.iv s1)⟩
def wTL (f : Rho → Option Bool) : WP Bool := ⟨fun ρ b Q => ∃ d, f (shutR false ρ) = some d ∧ Q d b, fun h ⟨d, e, q⟩ => ⟨d, e, h _ _ q⟩⟩
theorem nT_loose {e : Expr} {f : Rho → Option Bool} (h : PT X e (tT f)) : PT X e (tnT (wTL f)) := h.wk fun σ H Q q => by
  obtain ⟨g, M0, H0, ρ, b, R, d, e, q⟩ := q
  exact ⟨_, H, _, d, R.rs false, e, fun H1 s1 => q H1 (.of s1) (Pl.same R.iv s1)⟩
theorem nOp2 {g : D → D → Option D} {f1 f2 : WP D} {σ : L2.St} {H : Hp} {Q : VK} (q : tn (w2 f1 f2 g) σ H Q) : tOp (rD g) (tn f1) (tn f2) σ H Q := by
  obtain ⟨p, M0, H0, ρ, b, R, q⟩ := q
  refine ⟨p, M0, H0, ρ, b, R, f1.m (fun a b1 q x H1 k1 i1 r1 => ?_) q⟩
  refine ⟨p, M0, H0, ρ, b1, R.up k1 i1, f2.m (fun c b2 ⟨d, e, q⟩ y H2 k2 i2 r2 => ?_) q⟩
  exact ⟨_, a, c, d, ((R.up k1 i1).up k2 i2).domu true, r1.mono fun p o n e => k2 p o (fun z => n (.inl (R.pl p z))) e, r2, e, fun v H3 s3 r3 => q v H3 ((k1.tr k2).tr (.of s3)) (Pl.same i2 s3) r3⟩
theorem nE_op {a b : Expr} {op : Operator} {pos : Pos} {g : D → D → Option D} {f1 f2 : WP D} (o : OpR X (binaryOp op) (rD g)) (ha : PE X a (tn f1)) (hb : PE X b (tn f2)) : PE X (.BinOp a op b pos) (tn (w2 f1 f2 g)) := (pe_op o ha hb).wk fun _ _ _ q => nOp2 q
theorem nE_cmp {a b : Expr} {op : CmpOp} {pos : Pos} {g : D → D → Option D} {f1 f2 : WP D} (o : OpR X (compareOp op) (rD g)) (ha : PE X a (tn f1)) (hb : PE X b (tn f2)) (hm : behindInMarks op b = false) : PE X (.Compare a [op] [b] pos) (tn (w2 f1 f2 g)) := (pe_cmpR o ha hb hm).wk fun _ _ _ q => nOp2 q
theorem nE_ix {a b : Expr} {pos : Pos} {f1 f2 : WP D} (ha : PE X a (tn f1)) (hb : PE X b (tn f2)) (hp : PlainIx b := by exact fun _ _ => rfl) : PE X (.Subscript a b pos) (tn (w2 f1 f2 ixD)) := (pe_ix i_ix ha hb hp).wk fun _ _ _ q => nOp2 q
theorem nTest {f : WP D} {σ : L2.St} {H : Hp} {Q : Bool → Hp → Prop} (q : tnT (wB f bB) σ H Q) : tn f σ H (fun x H1 => ∃ c, x = V.bl c ∧ Q c H1) := by
  obtain ⟨p, M0, H0, ρ, b, R, q⟩ := q
  exact ⟨p, M0, H0, ρ, b, R, f.m (fun d b1 ⟨c, e, q⟩ v H1 k1 i1 r1 => ⟨c, r1.ofB e, q H1 k1 i1⟩) q⟩
theorem nT_cmp {a b : Expr} {op : CmpOp} {pos : Pos} {g : D → D → Option D} {f1 f2 : WP D} (o : OpR X (compareOp op) (rD g)) (ha : PE X a (tn f1)) (hb : PE X b (tn f2)) (hm : behindInMarks op b = false) : PT X (.Compare a [op] [b] pos) (tnT (wB (w2 f1 f2 g) bB)) := (pt_cmpR o ha hb hm).wk fun σ H Q q => nOp2 (nTest q)
theorem nT_val {e : Expr} {f : WP D} (h : PE X e (tn f)) (ht : ∀ (whole : Sem Value), PySem.isTrue e X.env whole = (do
          let v ← whole
          standAt e.pos
          holding [v] (truthy v)) := by intro _; rfl) : PT X e (tnT (wB f bB)) := (pt_val h ht).wk fun σ H Q q => nTest q
def wNot (f : WP Bool) : WP Bool := wB f fun b => some (!b)
theorem nT_not {a : Expr} {pos : Pos} {f : WP Bool} (h : PT X a (tnT f)) : PT X (.UnaryOp .Not a pos) (tnT (wNot f)) := (pt_not h).wk fun σ H Q q => by
  obtain ⟨p, M0, H0, ρ, b, R, q⟩ := q
  exact ⟨p, M0, H0, ρ, b, R, f.m (fun c b1 ⟨d, e, q⟩ H1 k1 i1 => by cases e; exact q H1 k1 i1) q⟩
def wAnd (f g : WP Bool) : WP Bool := ⟨fun ρ b Q => f.w ρ b fun c b1 => if c = true then g.w ρ b1 Q else Q false b1, fun h z => f.m (fun c b1 y => by
  cases c with
  | true => exact g.m h y
  | false => exact h _ _ y) z⟩
def wOr (f g : WP Bool) : WP Bool := ⟨fun ρ b Q => f.w ρ b fun c b1 => if c = true then Q true b1 else g.w ρ b1 Q, fun h z => f.m (fun c b1 y => by
  cases c with
  | true => exact h _ _ y
  | false => exact g.m h y) z⟩
theorem nW_and1 {a : Expr} {pos : Pos} {f : WP Bool} (h : PT X a (tnT f)) : PW X (.BoolOp .And [a] pos) (tnT f) := pw_and1 h
theorem nW_or1 {a : Expr} {pos : Pos} {f : WP Bool} (h : PT X a (tnT f)) : PW X (.BoolOp .Or [a] pos) (tnT f) := pw_or1 h
theorem nW_and {a b : Expr} {rest : List Expr} {pos : Pos} {f g : WP Bool} (ha : PT X a (tnT f)) (hb : PW X (.BoolOp .And (b :: rest) pos) (tnT g)) : PW X (.BoolOp .And (a :: b :: rest) pos) (tnT (wAnd f g)) := (pw_and ha hb).wk fun σ H Q q => by
  obtain ⟨p, M0, H0, ρ, b, R, q⟩ := q
  refine ⟨p, M0, H0, ρ, b, R, f.m (fun c b1 q H1 k1 i1 => ?_) q⟩
  cases c with
  | true => exact ⟨p, M0, H0, ρ, b1, R.up k1 i1, g.m (fun d b2 q H2 k2 i2 => q H2 (k1.tr k2) i2) q⟩
  | false => exact q H1 k1 i1
theorem nW_or {a b : Expr} {rest : List Expr} {pos : Pos} {f g : WP Bool} (ha : PT X a (tnT f)) (hb : PW X (.BoolOp .Or (b :: rest) pos) (tnT g)) : PW X (.BoolOp .Or (a :: b :: rest) pos) (tnT (wOr f g)) := (pw_or ha hb).wk fun σ H Q q => by
  obtain ⟨p, M0, H0, ρ, b, R, q⟩ := q
  refine ⟨p, M0, H0, ρ, b, R, f.m (fun c b1 q H1 k1 i1 => ?_) q⟩
  cases c with
  | true => exact q H1 k1 i1
  | false => exact ⟨p, M0, H0, ρ, b1, R.up k1 i1, g.m (fun d b2 q H2 k2 i2 => q H2 (k1.tr k2) i2) q⟩
def wIf {α : Type} (c : WP Bool) (f g : WP α) : WP α := ⟨fun ρ b Q => c.w ρ b fun k b1 => if k = true then f.w ρ b1 Q else g.w ρ b1 Q, fun h z => c.m (fun k b1 y => by
  cases k with
  | true => exact f.m h y
  | false => exact g.m h y) z⟩
theorem nE_if {a b c : Expr} {pos : Pos} {t : WP Bool} {f g : WP D} (hc : PT X c (tnT t)) (ha : PE X a (tn f)) (hb : PE X b (tn g)) : PE X (c.IfExp a b pos) (tn (wIf t f g)) := (pe_ifExp hc ha hb).wk fun σ H Q q => by
  obtain ⟨p, M0, H0, ρ, b, R, q⟩ := q
  refine ⟨p, M0, H0, ρ, b, R, t.m (fun k b1 q H1 k1 i1 => ?_) q⟩
  cases k with
  | true => exact ⟨p, M0, H0, ρ, b1, R.up k1 i1, f.m (fun d b2 q v H2 k2 i2 r2 => q v H2 (k1.tr k2) i2 r2) q⟩
  | false => exact ⟨p, M0, H0, ρ, b1, R.up k1 i1, g.m (fun d b2 q v H2 k2 i2 r2 => q v H2 (k1.tr k2) i2 r2) q⟩
def wNil : WP (List D) := ⟨fun _ b Q => Q [] b, fun h z => h _ _ z⟩
def wCons (f : WP D) (g : WP (List D)) : WP (List D) := w2 f g fun d ds => some (d :: ds)
theorem nA_nil : PA X [] (tnA wNil) := PA.weak pa_nil fun σ H Q q => by
  obtain ⟨p, M0, H0, ρ, b, R, q⟩ := q
  exact ⟨Q, q [] H .refl R.iv .nil, fun _ _ z => z⟩
theorem nA_cons {e : Expr} {es : List Expr} {f : WP D} {g : WP (List D)} (h : PE X e (tn f)) (hs : PA X es (tnA g)) (he : starEach (e :: es) X.env = (false, eval e X.env) :: starEach es X.env := by rfl) : PA X (e :: es) (tnA (wCons f g)) := PA.weak (pa_cons h hs he) fun σ H Q q => by
  obtain ⟨p, M0, H0, ρ, b, R, q⟩ := q
  refine ⟨Q, ⟨p, M0, H0, ρ, b, R, f.m (fun a b1 q x H1 k1 i1 r1 => ?_) q⟩, fun _ _ z => z⟩
  refine ⟨p, M0, H0, ρ, b1, R.up k1 i1, g.m (fun c b2 ⟨d, e, q⟩ y H2 k2 i2 r2 => ?_) q⟩
  cases e
  exact q _ H2 (k1.tr k2) i2 (.cons (r1.mono fun p o n e => k2 p o (fun z => n (.inl (R.pl p z))) e) r2)
def tupO (ds : List D) : Option D := if ds.length ≤ sizeLine then some (.tuple ds) else none
def lstO (ds : List D) : Option D := if ds.length ≤ sizeLine then some (.list ds) else none
theorem nE_tup {es : List Expr} {x1 : Nat} {pos : Pos} {g : WP (List D)} (h : PA X es (tnA g)) : PE X (.Tuple es x1 pos) (tn (wB g tupO)) := (pe_tupF h).wk fun σ H Q q => by
  obtain ⟨p, M0, H0, ρ, b, R, q⟩ := q
  refine ⟨p, M0, H0, ρ, b, R, g.m (fun ds b1 ⟨d, e, q⟩ vs H1 k1 i1 r1 => ?_) q⟩
  obtain ⟨l, rfl⟩ := iteS e
  exact ⟨by rw [r1.len]; exact l, fun a H2 np s2 t => q _ H2 (k1.tr (.of s2)) (Pl.same i1 s2) (.tup t (((R.up k1 i1).domu true).not np) (by rw [r1.len]; exact l) (r1.mono (.of s2)))⟩
theorem nE_lst {es : List Expr} {pos : Pos} {g : WP (List D)} (h : PA X es (tnA g)) : PE X (.List es pos) (tn (wB g lstO)) := (pe_lst h).wk fun σ H Q q => by
  obtain ⟨p, M0, H0, ρ, b, R, q⟩ := q
  refine ⟨p, M0, H0, ρ, b, R, g.m (fun ds b1 ⟨d, e, q⟩ vs H1 k1 i1 r1 => ?_) q⟩
  obtain ⟨l, rfl⟩ := iteS e
  exact ⟨by rw [r1.len]; exact l, fun a np => q _ _ (k1.tr (.of (smN np))) (Pl.same i1 (smN np)) (.lst upd_same (((R.up k1 i1).domu true).not np) (by rw [r1.len]; exact l) (r1.mono (.of (smN np))))⟩
theorem nCall {g : List D → Option D} {f : WP (List D)} {σ : L2.St} {H : Hp} {Q : VK} (q : tn (wB f g) σ H Q) : tCB (rC g) (tnA f) σ H Q := by
  obtain ⟨p, M0, H0, ρ, b, R, q⟩ := q
  refine ⟨p, M0, H0, ρ, b, R, f.m (fun ds b1 ⟨d, e, q⟩ vs H1 k1 i1 r1 => ?_) q⟩
  exact ⟨_, ds, d, (R.up k1 i1).domu true, r1, e, fun v H2 s2 r2 => q v H2 (k1.tr (.of s2)) (Pl.same i1 s2) r2⟩
theorem nE_cl {k n : Nat} {x : Str} {ps : List Str} {g : List D → Option D} {p pos : Pos} {e : Expr} {es : List Expr} {f : WP (List D)} (C : Cl X.prog X.w X.K X.mg X.base k x ps (spD n g)) (hr : Room k X.A) (hg : Gl X x) (ha : PA X (e :: es) (tnA f))
    (hdb : (x == ("__debug__" : Str)) = false := by decide) (he : starEach (e :: es) X.env = (false, eval e X.env) :: starEach es X.env := by rfl) (hpl : (backTo pos (starEach es X.env)).any (·.1) = false := by rfl) :
    PE X (.Call (.Name x p) (e :: es) [] pos) (tn (wB f (gN n g))) := (pe_cl C hr hg ha hdb he hpl).wk fun σ H Q q => by
  obtain ⟨p, M0, H0, ρ, b, R, q⟩ := q
  refine ⟨p, M0, H0, ρ, b, R, f.m (fun ds b1 ⟨d, e, q⟩ vs H1 k1 i1 r1 => ?_) q⟩
  unfold gN at e
  split at e
  · rename_i l
    rw [List.append_nil]
    exact ⟨_, ds, d, (R.up k1 i1).domu true, r1, l, e, fun v H2 s2 r2 => q v H2 (k1.tr (.of s2)) (Pl.same i1 s2) r2⟩
  · cases e
/-! a def that draws: its first argument is what is drawn from -/
structure GF where
  f : List D → Nat → (D → Nat → Prop) → Prop
  m : ∀ {ds b P Q}, (∀ d b', P d b' → Q d b') → f ds b P → f ds b Q
def spN (n : Nat) (F : GF) : Sp := fun vs H Q _ => ∃ (g : Pl) (M : Addr → Prop) (ws : List V) (ds : List D) (b : Nat), vs = g.h :: ws ∧ (∀ p, g.own p → M p) ∧ Dom M H ∧ g.inv b H ∧ RpAll M H ws ds ∧ ds.length = n ∧
  F.f ds b fun d b' => ∀ v H', KpM g.own H H' → g.inv b' H' → Rp M H' v d → Q v H'
def wCall (i n : Nat) (F : GF) (f : WP (List D)) : WP D := ⟨fun ρ b Q => ρ[i]? = some (some .pool) ∧ f.w ρ b fun ds b1 => ds.length = n ∧ F.f ds b1 Q, fun h z => ⟨z.1, f.m (fun ds b1 y => ⟨y.1, F.m h y.2⟩) z.2⟩⟩
theorem nE_draw {k n : Nat} {x : Str} {ps : List Str} {F : GF} {p pos : Pos} {e : Expr} {es : List Expr} {f : WP (List D)} {i : Nat} (C : Cl X.prog X.w X.K X.mg X.base k x ps (spN n F)) (hr : Room k X.A) (hg : Gl X x) (he0 : PE X e (tVar i)) (ha : PA X es (tnA f))
    (hdb : (x == ("__debug__" : Str)) = false := by decide) (he : starEach (e :: es) X.env = (false, eval e X.env) :: starEach es X.env := by rfl) (hpl : (backTo pos (starEach es X.env)).any (·.1) = false := by rfl) :
    PE X (.Call (.Name x p) (e :: es) [] pos) (tn (wCall i n F f)) := (pe_cl C hr hg (pa_cons he0 ha he) hdb he hpl).wk fun σ H Q q => by
  obtain ⟨p, M0, H0, ρ, b, R, ei, q⟩ := q
  refine ⟨_, R.pool i ei, p, M0, H0, ρ, b, R, f.m (fun ds b1 ⟨l, q⟩ vs H1 k1 i1 r1 => ?_) q⟩
  show spN n F ((p.h :: vs) ++ []) H1 Q E0
  rw [List.append_nil]
  exact ⟨p, _, vs, ds, b1, rfl, fun a o => .inl (R.pl a o), (R.up k1 i1).domu true, i1, r1, l, F.m (fun d b2 q v H2 k2 i2 r2 => q v H2 (k1.tr k2) i2 r2) q⟩
/-! ### walks and comprehensions -/
def inn (pr : Bool) (it : WP (List D)) : TI := fun σ H R => ∃ g M0 H0 ρ b, Rn g M0 H0 H σ ρ b ∧ it.w ρ b fun items b' => ∀ J H', KpM g.own H H' → g.inv b' H' → (∀ M', (∀ a, M' a → Mu true M0 σ ρ a ∨ H' a = none) → DW pr M' H' J items) → R J H'
theorem nI_pure {tg e : Expr} {pr : Bool} {it : Rho → Option (List D)} (h : PI X tg e (iD true pr it)) : PI X tg e (inn pr (wP it)) := h.wk fun σ H Q q => by
  obtain ⟨g, M0, H0, ρ, b, R, d, e, q⟩ := q
  exact ⟨_, H, _, d, R.rs true, e, fun J H1 s1 dw => q J H1 (.of s1) (Pl.same R.iv s1) fun M' hM => dw M' fun a m => (hM a m).elim (fun z => .inl (.inl z)) .inr⟩
def wI (it : Rho → Option (List D)) : WP (List D) := ⟨fun ρ b Q => ∃ d, it (shutR false ρ) = some d ∧ Q d b, fun h ⟨d, e, q⟩ => ⟨d, e, h _ _ q⟩⟩
theorem nI_ran1 {tg a : Expr} {p pos : Pos} {f : WP (List D)} (hg : Gl X "range") (hm : X.mg "range" = none) (ha : PA X [a] (tnA f)) (hs : starEach [a] X.env = [(false, eval a X.env)] := by rfl) : PI X tg (.Call (.Name "range" p) [a] [] pos) (inn false (wB f ran1D)) := (pi_range1 hg hm ha hs).wk fun σ H R q => by
  obtain ⟨p, M0, H0, ρ, b, Rr, q⟩ := q
  refine ⟨p, M0, H0, ρ, b, Rr, f.m (fun ds b1 ⟨d, e, q⟩ vs H1 k1 i1 r1 => ?_) q⟩
  cases r1 with
  | nil => cases e
  | cons h t =>
    cases t with
    | nil =>
      cases h <;> try (cases e; done)
      obtain ⟨l, rfl⟩ := iteS e
      exact ⟨_, rfl, l.1, by omega, q _ _ k1 i1 fun M' hM => DW.rng (szR (by omega))⟩
    | cons h2 t => cases h <;> cases e
theorem Rn.inner {g : Pl} {M0 : Addr → Prop} {H0 H H2 : Hp} {σ : L2.St} {ρ : Rho} {b b2 : Nat} {D : Addr} {acc : List V} (R : Rn g M0 H0 H σ ρ b) (hD : H D = none) (k : KpM g.own H H2) (i2 : g.inv b2 H2) (eD : H2 D = some (.lst acc)) (vs : List Nat) : Rn g (Mi true M0 σ ρ D) H2 H2 (wipe σ vs) (wipeR (shutR true ρ) vs) b2 := by
  have no : ∀ (vs : List Nat) a, Mu true (Mi true M0 σ ρ D) (wipe σ vs) (wipeR (shutR true ρ) vs) a → Mi true M0 σ ρ D a := fun vs a m => Mi.noOwn a m
  have nown : ∀ (vs : List Nat) (i : Nat) (ds : List Dl.D), (wipeR (shutR true ρ) vs)[i]? = some (some (.own ds)) → False := by
    intro vs
    induction vs with
    | nil => intro i ds e; exact shut_nown e
    | cons v vs ih =>
      intro i ds e
      rcases set_get (show ((wipeR (shutR true ρ) vs).set v none)[i]? = _ from e) with ⟨_, z⟩ | ⟨_, z⟩
      · cases z
      · exact ih i ds z
  have lv : ∀ (vs : List Nat) (i : Nat) (x : LV), (wipeR (shutR true ρ) vs)[i]? = some (some x) → ρ[i]? = some (some x) ∧ i ∉ vs := by
    intro vs
    induction vs with
    | nil =>
      intro i x e
      rcases seal_get (show (shutR true ρ)[i]? = _ from e) with ⟨e, _⟩ | ⟨z, _⟩
      · exact ⟨e, by simp⟩
      · cases z
    | cons v vs ih =>
      intro i x e
      rcases set_get (show ((wipeR (shutR true ρ) vs).set v none)[i]? = _ from e) with ⟨_, z⟩ | ⟨n, z⟩
      · cases z
      · have := ih i x z
        exact ⟨this.1, by simp only [List.mem_cons, not_or]; exact ⟨fun w => n w.symm, this.2⟩⟩
  have dm : Dom (Mi true M0 σ ρ D) H2 := fun p m => by
    rcases m with m | rfl
    · exact (R.up k i2).domu true p m
    · rw [eD]; intro z; cases z
  refine ⟨.refl, dm, dm, fun p o => .inl (.inl (R.pl p o)), i2, ?_, fun i d e => ?_, fun i ds e => (nown vs i ds e).elim, fun i v e => ?_, fun i e => ?_, fun i j a b p e => (nown vs i _ e).elim⟩
  · have : ∀ vs : List Nat, (wipeR (shutR true ρ) vs).length = ρ.length := by
      intro vs
      induction vs with
      | nil => unfold wipeR shutR; rw [List.length_map]
      | cons v vs ih => unfold wipeR; rw [List.length_set, ih]
    rw [this, wipe_len, R.len]
  · obtain ⟨e1, nv⟩ := lv vs i _ e
    obtain ⟨v, a, c⟩ := R.dat i d e1
    refine ⟨v, by rw [wipe_get nv]; exact a, (c.reM (M' := Mu true (Mi true M0 σ ρ D) (wipe σ vs) (wipeR (shutR true ρ) vs)) fun a m => ?_).mono fun p o n e => k p o (fun z => n (.inl (.inl (.inl (R.pl p z))))) e⟩
    rcases no vs a m with m | rfl
    · exact .inl m
    · exact .inr hD
  · obtain ⟨e1, nv⟩ := lv vs i _ e
    rw [wipe_get nv]
    exact R.raw i v e1
  · obtain ⟨e1, nv⟩ := lv vs i _ e
    rw [wipe_get nv]
    exact R.pool i e1
theorem Rn.set {g : Pl} {M0 : Addr → Prop} {H0 H : Hp} {σ : L2.St} {ρ : Rho} {b : Nat} {i : Nat} {v : V} {d : D} (R : Rn g M0 H0 H σ ρ b) (r : Rp (Mu true M0 σ ρ) H v d) : Rn g M0 H0 H (σ.set i (some v)) (ρ.set i (some (.dat d))) b := by
  have sh : ∀ a, Mu true M0 (σ.set i (some v)) (ρ.set i (some (.dat d))) a → Mu true M0 σ ρ a ∨ H a = none := fun a m => .inl (Mu.shrink (fun ds e => by cases e) a m)
  refine ⟨R.kp, R.dom0, R.dom, R.pl, R.iv, by rw [List.length_set, List.length_set]; exact R.len, fun j d' e => ?_, fun j ds e => ?_, fun j w e => ?_, fun j e => ?_, fun j k a b p e1 e2 e3 e4 => ?_⟩
  · rcases set_get e with ⟨rfl, e9⟩ | ⟨n, e⟩
    · cases e9
      have hl : i < ρ.length := by
        have := (List.getElem?_eq_some_iff.mp e).1
        rwa [List.length_set] at this
      exact ⟨v, set_same (by rw [← R.len]; exact hl), r.reM sh⟩
    · obtain ⟨w, x, y⟩ := R.dat j d' e
      exact ⟨w, by rw [set_other n]; exact x, y.reM sh⟩
  · rcases set_get e with ⟨rfl, e9⟩ | ⟨n, e⟩
    · cases e9
    · obtain ⟨p, vs, x, y, z, l, w⟩ := R.own j ds e
      exact ⟨p, vs, by rw [set_other n]; exact x, y, z, l, w.reM sh⟩
  · rcases set_get e with ⟨rfl, e9⟩ | ⟨n, e⟩
    · cases e9
    · rw [set_other n]; exact R.raw j w e
  · rcases set_get e with ⟨rfl, e9⟩ | ⟨n, e⟩
    · cases e9
    · rw [set_other n]; exact R.pool j e
  · rcases set_get e1 with ⟨rfl, e⟩ | ⟨n1, f1⟩
    · cases e
    rcases set_get e2 with ⟨rfl, e⟩ | ⟨n2, f2⟩
    · cases e
    rw [set_other n1] at e3
    rw [set_other n2] at e4
    exact R.inj j k a b p f1 f2 e3 e4
mutual
theorem bindP.okN {K : PySem.W.Frag} {g : Pl} {M0 : Addr → Prop} {H0 H : Hp} {b : Nat} : ∀ {p : Pat} {σ : L2.St} {ρ ρ' : Rho} {v : V} {d : D} {Q : L2.St → Hp → Prop} {pr : Bool}, Rn g M0 H0 H σ ρ b → RpI pr (Mu true M0 σ ρ) H v d → p.fits pr = true → bindP p d ρ = some ρ' →
    (∀ σ', Rn g M0 H0 H σ' ρ' b → Bnd M0 σ ρ (slP p) σ' ρ' → Q σ' H) → gP K p v σ H Q
  | .nm i, σ, ρ, ρ', v, d, Q, pr, R, r, ft, e, q => by
    have hpr : pr = false := by cases pr <;> first | rfl | cases ft
    subst hpr
    have r : Rp (Mu true M0 σ ρ) H v d := by
      rcases r with r | ⟨z, _⟩
      · exact r
      · cases z
    unfold bindP at e
    obtain ⟨l, rfl⟩ := iteS e
    refine q _ (R.set r) ⟨fun j hj => set_other fun z => hj (by rw [z]; exact List.mem_singleton.mpr rfl), List.length_set .., Mu.shrink fun ds e => by cases e⟩
  | .tp ps, σ, ρ, ρ', v, d, Q, pr, R, r, ft, e, q => by
    rcases r with r | ⟨_, a, xs, ds, rfl, rfl, t, r⟩
    · cases r <;> try (cases e; done)
      rename_i xs ds t n l r
      have hl := bindPs.len (show bindPs ps ds ρ = some ρ' from e)
      exact ⟨_, xs, rfl, t.sq, by rw [r.len]; exact hl, bindPs.okN R r e q⟩
    · have hl := bindPs.len (show bindPs ps ds ρ = some ρ' from e)
      exact ⟨_, xs, rfl, SqT.of t, by rw [r.len]; exact hl, bindPs.okN R r e q⟩
theorem bindPs.okN {K : PySem.W.Frag} {g : Pl} {M0 : Addr → Prop} {H0 H : Hp} {b : Nat} : ∀ {ps : Pats} {σ : L2.St} {ρ ρ' : Rho} {vs : List V} {ds : List D} {Q : L2.St → Hp → Prop}, Rn g M0 H0 H σ ρ b → RpAll (Mu true M0 σ ρ) H vs ds → bindPs ps ds ρ = some ρ' →
    (∀ σ', Rn g M0 H0 H σ' ρ' b → Bnd M0 σ ρ (slPs ps) σ' ρ' → Q σ' H) → gPs K ps vs σ H Q
  | .nil, σ, ρ, ρ', vs, ds, Q, R, r, e, q => by
    cases r with
    | nil => cases e; exact ⟨rfl, q σ R ⟨fun _ _ => rfl, rfl, fun a m => m⟩⟩
    | cons h t => cases e
  | .cons p ps, σ, ρ, ρ', vs, ds, Q, R, r, e, q => by
    cases r with
    | nil => cases e
    | cons h t =>
      unfold bindPs at e
      obtain ⟨ρ1, e1, e⟩ := some_bind e
      refine ⟨_, _, rfl, bindP.okN (pr := false) R (.inl h) (by cases p <;> rfl) e1 fun σ1 R1 B1 => ?_⟩
      refine bindPs.okN R1 (t.reM fun a m => .inl (B1.mu a m)) e fun σ2 R2 B2 => q σ2 R2 ⟨fun j hj => ?_, B2.len.trans B1.len, fun a m => B1.mu a (B2.mu a m)⟩
      have hj : j ∉ slP p ++ slPs ps := hj
      rw [List.mem_append, not_or] at hj
      rw [B2.oth j hj.2, B1.oth j hj.1]
end
def lcN (p : Pat) (c : WP Bool) (f : WP D) (ρ : Rho) : List D → Nat → (List D → Nat → Prop) → Prop
  | [], b, Q => Q [] b
  | x :: xs, b, Q => ∃ ρ1, bindP p x ρ = some ρ1 ∧ c.w ρ1 b fun k b1 => if k = true then f.w ρ1 b1 fun d b2 => lcN p c f ρ xs b2 fun r b3 => Q (d :: r) b3 else lcN p c f ρ xs b1 Q
theorem lcN.mono {p : Pat} {c : WP Bool} {f : WP D} {ρ : Rho} : ∀ {xs : List D} {b : Nat} {P Q : List D → Nat → Prop}, (∀ r b, P r b → Q r b) → lcN p c f ρ xs b P → lcN p c f ρ xs b Q
  | [], _, _, _, h, z => h _ _ z
  | x :: xs, b, P, Q, h, ⟨ρ1, e, z⟩ => ⟨ρ1, e, c.m (fun k b1 y => by
      cases k with
      | true => exact f.m (fun d b2 y => lcN.mono (fun r b3 y => h _ _ y) y) y
      | false => exact lcN.mono h y) z⟩
def wLc (vs : List Nat) (it : WP (List D)) (p : Pat) (c : WP Bool) (f : WP D) : WP D := ⟨fun ρ b Q => it.w ρ b fun items b1 => lcN p c f (wipeR (shutR true ρ) vs) items b1 fun r b2 => Q (.list r) b2, fun h z => it.m (fun items b1 y => lcN.mono (fun r b2 y => h _ _ y) y) z⟩
theorem lcCoreN {g : Pl} {pr : Bool} {M0 : Addr → Prop} {H0 H1 : Hp} {σ : L2.St} {ρ : Rho} {b : Nat} {J : It} {items : List D} {p : Pat} {c : WP Bool} {f : WP D} {vs : List Nat} {D : Addr} {Qd : Hp → Prop} {P : List Dl.D → Nat → Prop}
    (R : Rn g M0 H0 H1 σ ρ b) (dw : ∀ M', (∀ a, M' a → Mu true M0 σ ρ a ∨ H1 a = none) → DW pr M' H1 J items) (hD : H1 D = none) (hp : p.fits pr = true) (hs : ∀ j, j ∈ slP p → j ∈ vs) (e : lcN p c f (wipeR (shutR true ρ) vs) items b P)
    (q : ∀ H acc res b', KpM g.own H1 H → g.inv b' H → H D = some (.lst acc) → acc.length ≤ sizeLine → RpAll (Mi true M0 σ ρ D) H acc res → P res b' → Qd H) :
    ∃ W : Nat → Nat → Hp → Prop, (∃ m, W 0 m (upd H1 D (.lst []))) ∧ ∀ i m H, W i m H →
      (J.stop i H ∧ Qd H) ∨ (J.go i H ∧ ∃ Nx : Hp → Prop, (∀ H', Nx H' → ∃ m', m' < m ∧ W (i + 1) m' H') ∧ ∀ x H', J.yld i H x H' → gP K p x (wipe σ vs) H' fun σ2 H2 => wipe σ2 vs = wipe σ vs ∧ tnT c σ2 H2 fun b H3 =>
        if b = true then tn f σ2 H3 fun y H4 => ∃ acc, H4 D = some (.lst acc) ∧ acc.length < sizeLine ∧ Nx (upd H4 D (.lst (acc ++ [y]))) else Nx H3) := by
  have dw := dw (Mi true M0 σ ρ D) fun a m => m.elim .inl fun z => .inr (by rw [z]; exact hD)
  have sz := dw.sz
  obtain ⟨G, Y, W, hG, hY⟩ := dw.ex
  have pI : ∀ {H H' : Hp}, KpM g.own H H' → KpM (Mi true M0 σ ρ D) H H' := fun k p o n e => k p o (fun z => n (.inl (.inl (R.pl p z)))) e
  have gD : ¬ g.own D := fun o => R.dom D (R.pl D o) hD
  refine lc_it W (fun i H => KpM g.own H1 H ∧ ∃ acc done b', H D = some (.lst acc) ∧ acc.length ≤ i ∧ g.inv b' H ∧ RpAll (Mi true M0 σ ρ D) H acc done ∧ lcN p c f (wipeR (shutR true ρ) vs) (items.drop i) b' fun r b3 => P (done ++ r) b3) ⟨.of (smN hD), [], [], b, upd_same, Nat.le_refl _, Pl.same R.iv (smN hD), .nil, e⟩ (fun i H hi h => hG H (pI h.1)) (fun i v H H' hi h y => ?_) (fun H h => ?_)
  · obtain ⟨sm, acc, done, b1, eD, la, iv, ra, er⟩ := h
    obtain ⟨d, ed, s2, rv⟩ := hY i v H H' (pI sm) y
    rw [drop_at ed] at er
    unfold lcN at er
    obtain ⟨ρ1, e1, er⟩ := er
    have Rin := R.inner hD (sm.tr (.of s2)) (Pl.same iv s2) (s2 _ _ eD) vs
    refine bindP.okN (pr := pr) Rin ?_ hp e1 fun σ2 R2 B2 => ⟨wipe_eq B2.oth B2.len hs, _, _, _, ρ1, b1, R2, c.m (fun k b2 er H3 k3 i3 => ?_) er⟩
    · rcases rv with rv | ⟨zp, a, xs, ds, z1, z2, z3, z4⟩
      · exact .inl (rv.reM fun a m => .inl (Mi.noOwn a m))
      · exact .inr ⟨zp, a, xs, ds, z1, z2, z3, z4.reM fun a m => .inl (Mi.noOwn a m)⟩
    have k23 : KpM g.own H H3 := (KpM.of s2).tr k3
    cases k with
    | true =>
      refine ⟨_, _, _, ρ1, b2, R2.up k3 i3, f.m (fun dv b3 er y H4 k4 i4 r4 => ?_) er⟩
      have k24 := k23.tr k4
      have eD4 := k24 _ _ gD eD
      have kp : KpM (Mi true M0 σ ρ D) H4 (upd H4 D (.lst (acc ++ [y]))) := fun q o n e => by
        rw [upd_ne (fun z => n (.inr z))]
        exact e
      have r4 : Rp (Mi true M0 σ ρ D) H4 y dv := r4.reM fun a m => .inl (.inl m)
      refine ⟨acc, eD4, by omega, fun q o n e => ?_, acc ++ [y], done ++ [dv], b3, upd_same, by rw [List.length_append]; simp; omega, g.loc i4 fun p o => upd_ne fun z => gD (by rw [← z]; exact o), ?_, lcN.mono (fun r b z => by rw [List.append_assoc]; exact z) er⟩
      · rw [upd_ne (ne_of_none e hD)]
        exact (sm.tr k24) _ _ n e
      · exact ((ra.mono (pI k24)).mono kp).app (.cons (r4.mono kp) .nil)
    | false =>
      exact ⟨sm.tr k23, acc, done, b2, k23 _ _ gD eD, by omega, i3, ra.mono (pI k23), er⟩
  · obtain ⟨sm, acc, done, b1, eD, la, iv, ra, er⟩ := h
    rw [List.drop_length] at er
    have er : P (done ++ []) b1 := er
    rw [List.append_nil] at er
    exact q H acc done b1 sm iv eD (by omega) ra er
def wYes : WP Bool := ⟨fun _ b Q => Q true b, fun h z => h _ _ z⟩
theorem nTs_nil : PTs X [] (tnT wYes) := pts_nil.wk fun σ H Q q => by
  obtain ⟨p, M0, H0, ρ, b, R, q⟩ := q
  exact q H .refl R.iv
theorem nLcE {it : WP (List D)} {p : Pat} {c : WP Bool} {f : WP D} {vs : List Nat} {pr : Bool} (hp : p.fits pr = true) (hs : ∀ j, j ∈ slP p → j ∈ vs) {σ : L2.St} {H : Hp} {Q : VK} (q : tn (wLc vs it p c f) σ H Q) : tLc (inn pr it) (gP K p) (tnT c) (tn f) vs σ H Q := by
  obtain ⟨g, M0, H0, ρ, b, R, q⟩ := q
  refine ⟨g, M0, H0, ρ, b, R, it.m (fun items b1 q J H1 k1 i1 dw D hD => ?_) q⟩
  exact lcCoreN (R.up k1 i1) dw hD hp hs q fun H2 acc res b2 k2 i2 eD la ra q => q _ _ (k1.tr k2) i2 (.lst eD (((R.up k1 i1).domu true).not hD) la (ra.reM fun a m => .inl (.inl m)))
/-- a new list, with draws -/
def tnN (f : WP D) : TE := fun σ H Q => ∃ g M0 H0 ρ b, Rn g M0 H0 H σ ρ b ∧ f.w ρ b fun d b' => ∃ ds, d = .list ds ∧ ∀ p vs H', H p = none → KpM g.own H H' → g.inv b' H' → H' p = some (.lst vs) → vs.length ≤ sizeLine → RpAll (Mi true M0 σ ρ p) H' vs ds → Q (.ref p) H'
theorem nLcN {it : WP (List D)} {p : Pat} {c : WP Bool} {f : WP D} {vs : List Nat} {pr : Bool} (hp : p.fits pr = true) (hs : ∀ j, j ∈ slP p → j ∈ vs) {σ : L2.St} {H : Hp} {Q : VK} (q : tnN (wLc vs it p c f) σ H Q) : tLc (inn pr it) (gP K p) (tnT c) (tn f) vs σ H Q := by
  obtain ⟨g, M0, H0, ρ, b, R, q⟩ := q
  refine ⟨g, M0, H0, ρ, b, R, it.m (fun items b1 q J H1 k1 i1 dw D hD => ?_) q⟩
  have nD : H D = none := by
    cases z : H D with
    | none => rfl
    | some o =>
      by_cases ow : g.own D
      · exact ((g.alive i1 ow) hD).elim
      · rw [k1 _ _ ow z] at hD; cases hD
  exact lcCoreN (R.up k1 i1) dw hD hp hs q fun H2 acc res b2 k2 i2 eD la ra ⟨ds, z, q⟩ => by
    cases z
    exact q D acc H2 nD (k1.tr k2) i2 eD la ra
end
end Dl
namespace Dl
open PySem PySem.Spec PyProof.Rows L2 Rt
/-! ### statements that draw -/
def PostN (g : Pl) (M0 : Addr → Prop) (H0 : Hp) (σ : L2.St) (ρ : Rho) (H : Hp) (Dn : Ends) : Out → Nat → Prop
  | .nx ρ', b => ∀ σ' H', Rn g M0 H0 H' σ' ρ' b → Stp M0 σ ρ H σ' ρ' H' → Dn.nx σ' H'
  | .rt d, b => ∀ v H', KpM g.own H0 H' → g.inv b H' → Rp M0 H' v d → Dn.rt v H'
  | .bk ρ', b => ∀ σ' H', Rn g M0 H0 H' σ' ρ' b → Stp M0 σ ρ H σ' ρ' H' → Dn.bk σ' H'
  | .ct ρ', b => ∀ σ' H', Rn g M0 H0 H' σ' ρ' b → Stp M0 σ ρ H σ' ρ' H' → Dn.ct σ' H'
theorem PostN.from {g : Pl} {M0 : Addr → Prop} {H0 : Hp} {σ σ1 : L2.St} {ρ ρ1 : Rho} {H H1 : Hp} {Dn : Ends} {o : Out} {b : Nat} (st : Stp M0 σ ρ H σ1 ρ1 H1) (p : PostN g M0 H0 σ ρ H Dn o b) : PostN g M0 H0 σ1 ρ1 H1 Dn o b := by
  cases o with
  | nx ρ' => exact fun σ' H' R s => p σ' H' R (st.trans s)
  | rt d => exact p
  | bk ρ' => exact fun σ' H' R s => p σ' H' R (st.trans s)
  | ct ρ' => exact fun σ' H' R s => p σ' H' R (st.trans s)
def tSn (f : WP Out) : TS := fun Dn σ H => ∃ g M0 H0 ρ b, Rn g M0 H0 H σ ρ b ∧ f.w ρ b fun o b' => PostN g M0 H0 σ ρ H Dn o b'
theorem Rn.stp {g : Pl} {M0 : Addr → Prop} {H0 H H' : Hp} {σ : L2.St} {ρ : Rho} {b : Nat} (R : Rn g M0 H0 H σ ρ b) (k : KpM g.own H H') : Stp M0 σ ρ H σ ρ H' := ⟨fun p o n e => k p o (fun z => n (.inl (R.pl p z))) e, fun p m => .inl m⟩
section
variable {X : Cx} {K : PySem.W.Frag}
def swAsg (p : Pat) (f : WP D) : WP Out := ⟨fun ρ b Q => f.w ρ b fun d b' => ∃ ρ1, bindP p d ρ = some ρ1 ∧ Q (.nx ρ1) b', fun h z => f.m (fun d b' ⟨ρ1, e, y⟩ => ⟨ρ1, e, h _ _ y⟩) z⟩
theorem nS_asg {st : Stmt} {p : Pat} {f : WP D} (h : PS X st (tAsg (tn f) (gP K p))) : PS X st (tSn (swAsg p f)) := h.wk fun Dn σ H q => by
  obtain ⟨g, M0, H0, ρ, b, R, q⟩ := q
  refine ⟨g, M0, H0, ρ, b, R, f.m (fun d b' ⟨ρ1, e1, q⟩ v H1 k1 i1 r1 => ?_) q⟩
  exact bindP.okN (pr := false) (R.up k1 i1) (.inl r1) (by cases p <;> rfl) e1 fun σ1 R1 B1 => q σ1 H1 R1 ((R.stp k1).trans ⟨.refl, fun p m => .inl (B1.mu p m)⟩)
def swRet (f : WP D) : WP Out := ⟨fun ρ b Q => f.w ρ b fun d b' => Q (.rt d) b', fun h z => f.m (fun d b' y => h _ _ y) z⟩
theorem nS_ret {st : Stmt} {f : WP D} (h : PS X st (tRet (tn f))) : PS X st (tSn (swRet f)) := h.wk fun Dn σ H q => by
  obtain ⟨g, M0, H0, ρ, b, R, q⟩ := q
  exact ⟨g, M0, H0, ρ, b, R, f.m (fun d b' q v H1 k1 i1 r1 => q v H1 (R.kp.tr k1) i1 (r1.reM Mu.lo)) q⟩
def swRetL (f : EF) : WP Out := ⟨fun ρ b Q => ∃ d, f (shutR false ρ) = some d ∧ Q (.rt d) b, fun h ⟨d, e, y⟩ => ⟨d, e, h _ _ y⟩⟩
theorem nS_retL {st : Stmt} {f : EF} {μ : Bool} (h : PS X st (tRet (tD μ f))) : PS X st (tSn (swRetL f)) := h.wk fun Dn σ H q => by
  obtain ⟨g, M0, H0, ρ, b, R, d, e, q⟩ := q
  exact ⟨_, H, _, d, R.rs false, e, fun v H1 s1 r1 => q v H1 (R.kp.tr (.of s1)) (Pl.same R.iv s1) (r1.reM fun a m => .inl (.inl (.inl m)))⟩
def swIf (c : WP Bool) (f g : WP Out) : WP Out := wIf c f g
theorem nS_if {c : Expr} {a b : List Stmt} {pos : Pos} {t : WP Bool} {f g : WP Out} (hc : PT X c (tnT t)) (ha : PSs X a (tSn f)) (hb : PSs X b (tSn g)) : PS X (.If c a b pos) (tSn (swIf t f g)) := (ps_if hc ha hb).wk fun Dn σ H q => by
  obtain ⟨p, M0, H0, ρ, b, R, q⟩ := q
  refine ⟨p, M0, H0, ρ, b, R, t.m (fun k b1 q H1 k1 i1 => ?_) q⟩
  cases k with
  | true => exact ⟨p, M0, H0, ρ, b1, R.up k1 i1, f.m (fun o b2 q => q.from (R.stp k1)) q⟩
  | false => exact ⟨p, M0, H0, ρ, b1, R.up k1 i1, g.m (fun o b2 q => q.from (R.stp k1)) q⟩
def swSeq (f g : WP Out) : WP Out := ⟨fun ρ b Q => f.w ρ b fun o b1 => match o with
  | .nx ρ' => g.w ρ' b1 Q
  | o => Q o b1, fun h z => f.m (fun o b1 y => by
    cases o with
    | nx ρ' => exact g.m h y
    | rt d => exact h _ _ y
    | bk ρ' => exact h _ _ y
    | ct ρ' => exact h _ _ y) z⟩
theorem nSs_cons {st : Stmt} {rest : List Stmt} {f g : WP Out} (h : PS X st (tSn f)) (hs : PSs X rest (tSn g)) : PSs X (st :: rest) (tSn (swSeq f g)) := (pss_cons h hs).wk fun Dn σ H q => by
  obtain ⟨p, M0, H0, ρ, b, R, q⟩ := q
  refine ⟨p, M0, H0, ρ, b, R, f.m (fun o b1 q => ?_) q⟩
  cases o with
  | nx ρ' => exact fun σ' H' R' s => ⟨p, M0, H0, ρ', b1, R', g.m (fun o b2 q => q.from s) q⟩
  | rt d => exact q
  | bk ρ' => exact q
  | ct ρ' => exact q
theorem nSs_one {st : Stmt} {f : WP Out} (h : PS X st (tSn f)) : PSs X [st] (tSn f) := pss_one h
def swNil : WP Out := ⟨fun ρ b Q => Q (.nx ρ) b, fun h z => h _ _ z⟩
theorem nSs_nil : PSs X [] (tSn swNil) := pss_nil.wk fun Dn σ H q => by
  obtain ⟨p, M0, H0, ρ, b, R, q⟩ := q
  exact q σ H R .refl
def forN (p : Pat) (body : WP Out) : List D → Rho → Nat → (Out → Nat → Prop) → Prop
  | [], ρ, b, Q => Q (.nx ρ) b
  | x :: xs, ρ, b, Q => ∃ ρ1, bindP p x ρ = some ρ1 ∧ body.w ρ1 b fun o b1 => match o with
    | .nx ρ2 => forN p body xs ρ2 b1 Q
    | .ct ρ2 => forN p body xs ρ2 b1 Q
    | .bk ρ2 => Q (.nx ρ2) b1
    | .rt d => Q (.rt d) b1
theorem forN.mono {p : Pat} {body : WP Out} : ∀ {xs : List D} {ρ : Rho} {b : Nat} {P Q : Out → Nat → Prop}, (∀ o b, P o b → Q o b) → forN p body xs ρ b P → forN p body xs ρ b Q
  | [], _, _, _, _, h, z => h _ _ z
  | x :: xs, ρ, b, P, Q, h, ⟨ρ1, e, z⟩ => ⟨ρ1, e, body.m (fun o b1 y => by
      cases o with
      | nx ρ2 => exact forN.mono h y
      | ct ρ2 => exact forN.mono h y
      | bk ρ2 => exact h _ _ y
      | rt d => exact h _ _ y) z⟩
def swFor (it : WP (List D)) (p : Pat) (body : WP Out) : WP Out := ⟨fun ρ b Q => it.w ρ b fun items b1 => forN p body items ρ b1 Q, fun h z => it.m (fun items b1 y => forN.mono h y) z⟩
theorem nFor {it : WP (List D)} {p : Pat} {body : WP Out} {pr : Bool} (hp : p.fits pr = true) {Dn : Ends} {σ : L2.St} {H : Hp} (q : tSn (swFor it p body) Dn σ H) : tFor (inn pr it) (gP K p) (tSn body) Dn σ H := by
  obtain ⟨g, M0, H0, ρ, b, R, q⟩ := q
  refine ⟨g, M0, H0, ρ, b, R, it.m (fun items b1 q J H1 k1 i1 dw => ⟨fun i m σ' H' => i ≤ items.length ∧ m = items.length - i ∧ ∃ ρ' b', Rn g M0 H0 H' σ' ρ' b' ∧ Stp M0 σ ρ H1 σ' ρ' H' ∧ forN p body (items.drop i) ρ' b' fun o b2 => PostN g M0 H0 σ ρ H Dn o b2, ⟨_, Nat.zero_le _, rfl, ρ, b1, R.up k1 i1, .refl, q⟩, ?_⟩) q⟩
  rintro i m σ' H' ⟨hi, rfl, ρ', b', R', st, e⟩
  have dw := dw (fun a => Mu true M0 σ' ρ' a ∨ Mu true M0 σ ρ a) fun a m => m.elim (st.ow a) .inl
  obtain ⟨G, Y, W, hG, hY⟩ := dw.ex
  have kp : KpM (fun a => Mu true M0 σ' ρ' a ∨ Mu true M0 σ ρ a) H1 H' := fun p o n e => st.kp p o (fun m => n (.inr m)) e
  have stA := (R.stp k1).trans st
  by_cases hlt : i < items.length
  · refine .inr ⟨W.goes i H' hlt (hG _ kp), fun σ3 H3 => ∃ ρ3 b3, Rn g M0 H0 H3 σ3 ρ3 b3 ∧ Stp M0 σ ρ H1 σ3 ρ3 H3 ∧ forN p body (items.drop (i + 1)) ρ3 b3 fun o b2 => PostN g M0 H0 σ ρ H Dn o b2, fun σ3 H3 h => ⟨items.length - (i + 1), by omega, hlt, rfl, h⟩, fun x Hb y => ?_⟩
    obtain ⟨d, ed, s2, rv⟩ := hY i x H' Hb kp (W.yields i H' x Hb hlt (hG _ kp) y)
    rw [drop_at ed] at e
    unfold forN at e
    obtain ⟨ρ1, e1, e⟩ := e
    refine bindP.okN (pr := pr) (R'.mono s2) ?_ hp e1 fun σ2 R2 B2 => ⟨g, M0, H0, ρ1, b', R2, body.m (fun o1 b2 e => ?_) e⟩
    · rcases rv with rv | ⟨zp, a, xs, ds, z1, z2, z3, z4⟩
      · exact .inl (rv.reM fun a m => .inl (.inl m))
      · exact .inr ⟨zp, a, xs, ds, z1, z2, z3, z4.reM fun a m => .inl (.inl m)⟩
    have st2 : Stp M0 σ' ρ' H' σ2 ρ1 Hb := ⟨.of s2, fun p m => .inl (B2.mu p m)⟩
    cases o1 with
    | nx ρ2 => exact fun σ3 H3 R3 s3 => ⟨ρ2, b2, R3, (st.trans st2).trans s3, e⟩
    | ct ρ2 => exact fun σ3 H3 R3 s3 => ⟨ρ2, b2, R3, (st.trans st2).trans s3, e⟩
    | bk ρ2 => exact fun σ3 H3 R3 s3 => (show PostN g M0 H0 σ ρ H Dn (.nx ρ2) b2 from e) σ3 H3 R3 ((stA.trans st2).trans s3)
    | rt d => exact e
  · have : i = items.length := by omega
    subst this
    rw [List.drop_length] at e
    exact .inl ⟨W.stops H' (hG _ kp), (show PostN g M0 H0 σ ρ H Dn (.nx ρ') b' from e) σ' H' R' stA⟩
theorem nS_for {st : Stmt} {it : WP (List D)} {p : Pat} {body : WP Out} {pr : Bool} (h : PS X st (tFor (inn pr it) (gP K p) (tSn body))) (hp : p.fits pr = true := by rfl) : PS X st (tSn (swFor it p body)) := h.wk fun Dn σ H q => nFor hp q
/-! lists of one's own -/
theorem Rn.ownSet {g : Pl} {M0 : Addr → Prop} {H0 H : Hp} {σ : L2.St} {ρ : Rho} {b : Nat} {i : Nat} {ds ds' : List D} {p : Addr} {vs vs' : List V} (R : Rn g M0 H0 H σ ρ b) (e : ρ[i]? = some (some (.own ds))) (es : σ[i]? = some (some (.ref p))) (eH : H p = some (.lst vs)) (l : vs'.length ≤ sizeLine) (r : RpAll (Mu true M0 σ ρ) H vs' ds') :
    Rn g M0 H0 (upd H p (.lst vs')) σ (ρ.set i (some (.own ds'))) b ∧ Stp M0 σ ρ H σ (ρ.set i (some (.own ds'))) (upd H p (.lst vs')) := by
  have hi : i < ρ.length := (List.getElem?_eq_some_iff.mp e).1
  have mp : Mu true M0 σ ρ p := .inr ⟨rfl, i, ds, e, es⟩
  have mu : ∀ a, Mu true M0 σ (ρ.set i (some (.own ds'))) a → Mu true M0 σ ρ a := fun a m => by
    rcases m with m | ⟨_, j, es', e1, e2⟩
    · exact .inl m
    · rcases set_get e1 with ⟨rfl, _⟩ | ⟨n, e1⟩
      · exact .inr ⟨rfl, i, ds, e, e2⟩
      · exact .inr ⟨rfl, j, es', e1, e2⟩
  have kp : KpM (Mu true M0 σ ρ) H (upd H p (.lst vs')) := fun a o n e => by
    rw [upd_ne (fun z => n (by rw [z]; exact mp))]
    exact e
  have h0 : H0 p = none := by
    obtain ⟨q, us, a, b, c, _⟩ := R.own i ds e
    rw [es] at a
    cases a
    exact c
  have np : ¬ M0 p := fun m => R.dom0 p m h0
  refine ⟨⟨fun a o n e => ?_, R.dom0, fun a m => ?_, R.pl, g.loc R.iv fun a o => upd_ne fun z => np (by rw [← z]; exact R.pl a o), by rw [List.length_set]; exact R.len, fun j d e1 => ?_, fun j es' e1 => ?_, fun j v e1 => ?_, fun j e1 => ?_, fun j k a b q e1 e2 e3 e4 => ?_⟩, kp, fun a m => .inl (mu a m)⟩
  · rw [upd_ne (fun z => by rw [z, h0] at e; cases e)]
    exact R.kp a o n e
  · rw [upd_ne (fun z => np (by rw [← z]; exact m))]
    exact R.dom a m
  · rcases set_get e1 with ⟨_, z⟩ | ⟨n, e1⟩
    · cases z
    · obtain ⟨v, a, b⟩ := R.dat j d e1
      exact ⟨v, a, (b.mono kp).reM fun a m => .inl (mu a m)⟩
  · rcases set_get e1 with ⟨rfl, z⟩ | ⟨n, e1⟩
    · cases z
      exact ⟨p, vs', es, upd_same, h0, l, (r.mono kp).reM fun a m => .inl (mu a m)⟩
    · obtain ⟨q, us, a, b, c, l', r'⟩ := R.own j es' e1
      refine ⟨q, us, a, ?_, c, l', (r'.mono kp).reM fun a m => .inl (mu a m)⟩
      rw [upd_ne (fun z => n (R.inj i j ds es' p e e1 es (by rw [← z]; exact a)))]
      exact b
  · rcases set_get e1 with ⟨_, z⟩ | ⟨n, e1⟩
    · cases z
    · exact R.raw j v e1
  · rcases set_get e1 with ⟨_, z⟩ | ⟨n, e1⟩
    · cases z
    · exact R.pool j e1
  · have f1 : ∃ a', ρ[j]? = some (some (.own a')) := by
      rcases set_get e1 with ⟨rfl, _⟩ | ⟨_, z⟩
      · exact ⟨ds, e⟩
      · exact ⟨a, z⟩
    have f2 : ∃ a', ρ[k]? = some (some (.own a')) := by
      rcases set_get e2 with ⟨rfl, _⟩ | ⟨_, z⟩
      · exact ⟨ds, e⟩
      · exact ⟨b, z⟩
    obtain ⟨a', f1⟩ := f1
    obtain ⟨b', f2⟩ := f2
    exact R.inj j k a' b' q f1 f2 e3 e4
theorem Rn.ownNew {g : Pl} {M0 : Addr → Prop} {H0 H H' : Hp} {σ : L2.St} {ρ : Rho} {b b' : Nat} {i : Nat} {ds : List D} {p : Addr} {vs : List V} (R : Rn g M0 H0 H σ ρ b) (hi : i < ρ.length) (np : H p = none) (k : KpM g.own H H') (iv : g.inv b' H') (eH : H' p = some (.lst vs)) (l : vs.length ≤ sizeLine) (r : RpAll (Mi true M0 σ ρ p) H' vs ds) :
    Rn g M0 H0 H' (σ.set i (some (.ref p))) (ρ.set i (some (.own ds))) b' ∧ Stp M0 σ ρ H (σ.set i (some (.ref p))) (ρ.set i (some (.own ds))) H' := by
  have mu : ∀ a, Mu true M0 (σ.set i (some (.ref p))) (ρ.set i (some (.own ds))) a → Mi true M0 σ ρ p a := fun a m => by
    rcases m with m | ⟨_, j, es', e1, e2⟩
    · exact .inl (.inl m)
    · rcases set_get e1 with ⟨rfl, _⟩ | ⟨n, e1⟩
      · rw [set_same (by rw [← R.len]; exact hi)] at e2
        cases e2
        exact .inr rfl
      · rw [set_other n] at e2
        exact .inl (.inr ⟨rfl, j, es', e1, e2⟩)
  have h0 : H0 p = none := by
    cases z : H0 p with
    | none => rfl
    | some o =>
      by_cases ow : g.own p
      · exact (R.dom p (R.pl p ow) np).elim
      · rw [R.kp _ _ ow z] at np; cases np
  have re : ∀ a, Mu true M0 (σ.set i (some (.ref p))) (ρ.set i (some (.own ds))) a → Mu true M0 σ ρ a ∨ H a = none := fun a m => by
    rcases mu a m with m | rfl
    · exact .inl m
    · exact .inr np
  have kp : KpM (Mu true M0 σ ρ) H H' := fun p o n e => k p o (fun z => n (.inl (R.pl p z))) e
  have kp2 : KpM (Mu true M0 (σ.set i (some (.ref p))) (ρ.set i (some (.own ds)))) H H' := fun p o n e => k p o (fun z => n (.inl (R.pl p z))) e
  have RU := R.up k iv
  refine ⟨⟨RU.kp, R.dom0, RU.dom, R.pl, iv, by rw [List.length_set, List.length_set]; exact R.len, fun j d e1 => ?_, fun j es' e1 => ?_, fun j v e1 => ?_, fun j e1 => ?_, fun j k a b q e1 e2 e3 e4 => ?_⟩, kp, re⟩
  · rcases set_get e1 with ⟨_, z⟩ | ⟨n, e1⟩
    · cases z
    · obtain ⟨v, a, b⟩ := R.dat j d e1
      exact ⟨v, by rw [set_other n]; exact a, (b.reM re).mono kp2⟩
  · rcases set_get e1 with ⟨rfl, z⟩ | ⟨n, e1⟩
    · cases z
      exact ⟨p, vs, set_same (by rw [← R.len]; exact hi), eH, h0, l, r.reM fun a m => .inl (mu a m)⟩
    · obtain ⟨q, us, a, b, c, l', r'⟩ := R.own j es' e1
      exact ⟨q, us, by rw [set_other n]; exact a, k _ _ (fun o => R.dom0 q (R.pl q o) c) b, c, l', (r'.reM re).mono kp2⟩
  · rcases set_get e1 with ⟨_, z⟩ | ⟨n, e1⟩
    · cases z
    · rw [set_other n]; exact R.raw j v e1
  · rcases set_get e1 with ⟨_, z⟩ | ⟨n, e1⟩
    · cases z
    · rw [set_other n]; exact R.pool j e1
  · have own : ∀ (m : Nat) (es : List D), ρ[m]? = some (some (.own es)) → σ[m]? = some (some (.ref q)) → q ≠ p := fun m es f1 f2 z => by
      obtain ⟨q', us, a, b, _⟩ := R.own m es f1
      rw [f2] at a
      cases a
      rw [z, np] at b
      cases b
    rcases set_get e1 with ⟨rfl, _⟩ | ⟨n1, f1⟩
    · rcases set_get e2 with ⟨rfl, _⟩ | ⟨n2, f2⟩
      · rfl
      · rw [set_same (by rw [← R.len]; exact hi)] at e3
        cases e3
        rw [set_other n2] at e4
        exact (own k b f2 e4 rfl).elim
    · rw [set_other n1] at e3
      rcases set_get e2 with ⟨rfl, _⟩ | ⟨n2, f2⟩
      · rw [set_same (by rw [← R.len]; exact hi)] at e4
        cases e4
        exact (own j a f1 e3 rfl).elim
      · rw [set_other n2] at e4
        exact R.inj j k a b q f1 f2 e3 e4
def swOwn (i : Nat) (f : WP D) : WP Out := ⟨fun ρ b Q => f.w ρ b fun d b' => ∃ ds, d = .list ds ∧ i < ρ.length ∧ Q (.nx (ρ.set i (some (.own ds)))) b', fun h z => f.m (fun d b' ⟨ds, e, l, y⟩ => ⟨ds, e, l, h _ _ y⟩) z⟩
theorem nS_own {st : Stmt} {i : Nat} {f : WP D} (h : PS X st (tAsg (tnN f) (gName i))) : PS X st (tSn (swOwn i f)) := h.wk fun Dn σ H q => by
  obtain ⟨g, M0, H0, ρ, b, R, q⟩ := q
  refine ⟨g, M0, H0, ρ, b, R, f.m (fun d b' ⟨ds, e, hi, q⟩ => ⟨ds, e, fun p vs H1 np k1 i1 eH l r => ?_⟩) q⟩
  obtain ⟨R1, s1⟩ := R.ownNew hi np k1 i1 eH l r
  exact q _ _ R1 s1
theorem nN_pure {e : Expr} {f : EF} (h : PE X e (tN f)) : PE X e (tnN (wP f)) := h.wk fun σ H Q q => by
  obtain ⟨g, M0, H0, ρ, b, R, d, e, ds, rfl, q⟩ := q
  refine ⟨_, H, _, ds, R.rs true, e, fun p vs H1 np s1 eH l r => q p vs H1 np (.of s1) (Pl.same R.iv s1) eH l (r.reM fun a m => ?_)⟩
  rcases m with m | rfl
  · exact .inl (.inl (.inl m))
  · exact .inl (.inr rfl)
theorem nN_lst {es : List Expr} {pos : Pos} {f : WP (List D)} (h : PA X es (tnA f)) : PE X (.List es pos) (tnN (wB f lstO)) := (pe_lst h).wk fun σ H Q q => by
  obtain ⟨g, M0, H0, ρ, b, R, q⟩ := q
  refine ⟨g, M0, H0, ρ, b, R, f.m (fun ds b1 ⟨d, e, ds', z, q⟩ vs H1 k1 i1 r1 => ?_) q⟩
  obtain ⟨l, rfl⟩ := iteS e
  cases z
  refine ⟨by rw [r1.len]; exact l, fun p np => q p vs _ ?_ (k1.tr (.of (smN np))) (Pl.same i1 (smN np)) upd_same (by rw [r1.len]; exact l) ((r1.reM fun a m => ?_).mono (.of (smN np)))⟩
  · cases z : H p with
    | none => rfl
    | some o =>
      by_cases ow : g.own p
      · exact (g.alive i1 ow np).elim
      · rw [k1 _ _ ow z] at np; cases np
  · rcases m with m | rfl
    · exact .inl m
    · exact .inr np
def swApp (i : Nat) (f : WP (List D)) : WP Out := ⟨fun ρ b Q => ∃ ds, ρ[i]? = some (some (.own ds)) ∧ f.w ρ b fun es b' => ∃ d, es = [d] ∧ ds.length < sizeLine ∧ Q (.nx (ρ.set i (some (.own (ds ++ [d]))))) b', fun h ⟨ds, e, z⟩ => ⟨ds, e, f.m (fun es b' ⟨d, e2, l, y⟩ => ⟨d, e2, l, h _ _ y⟩) z⟩⟩
theorem nS_app {st : Stmt} {i : Nat} {f : WP (List D)} (h : PS X st (tDrop (tBM K "list" rAppend (tVar i) (tnA f)))) : PS X st (tSn (swApp i f)) := h.wk fun Dn σ H q => by
  obtain ⟨g, M0, H0, ρ, b, R, ds, z, q⟩ := q
  obtain ⟨p, vs, a, c, h0, l, r⟩ := R.own i ds z
  refine ⟨.ref p, a, .inl ⟨rfl, _, SqL.of c⟩, g, M0, H0, ρ, b, R, f.m (fun es b1 ⟨d, e, l2, q⟩ us H1 k1 i1 r1 => ?_) q⟩
  subst e
  match us, r1 with
  | [u], .cons r1 .nil =>
    have hl : vs.length < sizeLine := by rw [r.len]; exact l2
    have c1 := k1 _ _ (fun o => R.dom0 p (R.pl p o) h0) c
    refine ⟨p, vs, _, rfl, rfl, c1, hl, ?_⟩
    obtain ⟨R1, S1⟩ := (R.up k1 i1).ownSet z a c1 (vs' := vs ++ [u]) (by rw [List.length_append]; exact hl) ((r.mono fun p o n e => k1 p o (fun z => n (.inl (R.pl p z))) e).app (.cons r1 .nil))
    exact q _ _ R1 ((R.stp k1).trans S1)
def swDrop (f : WP D) : WP Out := ⟨fun ρ b Q => f.w ρ b fun _ b' => Q (.nx ρ) b', fun h z => f.m (fun d b' y => h _ _ y) z⟩
theorem nS_expr {st : Stmt} {f : WP D} (h : PS X st (tDrop (tn f))) : PS X st (tSn (swDrop f)) := h.wk fun Dn σ H q => by
  obtain ⟨g, M0, H0, ρ, b, R, q⟩ := q
  exact ⟨g, M0, H0, ρ, b, R, f.m (fun d b' q v H1 k1 i1 r1 => q σ H1 (R.up k1 i1) (R.stp k1)) q⟩
end
/-! ### a def that draws -/
def startP (n : Nat) (ds : List D) : Rho := some .pool :: (ds.map (fun d => some (.dat d)) ++ List.replicate (n - (ds.length + 1)) none)
theorem RpAll.startN {g : Pl} {M : Addr → Prop} {H : Hp} {N : List Str} {vs : List V} {ds : List D} {b : Nat} (dm : Dom M H) (pl : ∀ p, g.own p → M p) (iv : g.inv b H) (r : RpAll M H vs ds) : Rn g M H H (L2.start N (g.h :: vs)) (startP N.length ds) b := by
  have get : ∀ (i : Nat) (x : LV), (startP N.length ds)[i]? = some (some x) → (i = 0 ∧ x = .pool) ∨ ∃ j d, i = j + 1 ∧ ds[j]? = some d ∧ x = .dat d := fun i x e => by
    cases i with
    | zero => cases e; exact .inl ⟨rfl, rfl⟩
    | succ j =>
      have e : (ds.map (fun d => some (LV.dat d)) ++ List.replicate (N.length - (ds.length + 1)) none)[j]? = some (some x) := e
      rw [List.getElem?_append] at e
      split at e
      · rw [List.getElem?_map] at e
        cases z : ds[j]? with
        | none => rw [z] at e; cases e
        | some d => rw [z] at e; cases e; exact .inr ⟨j, d, rfl, z, rfl⟩
      · rw [List.getElem?_replicate] at e
        split at e <;> cases e
  have mu : ∀ a, Mu true M (L2.start N (g.h :: vs)) (startP N.length ds) a → M a ∨ H a = none := fun a m => by
    rcases m with m | ⟨_, j, es, e, _⟩
    · exact .inl m
    · rcases get j _ e with ⟨_, z⟩ | ⟨_, _, _, _, z⟩ <;> cases z
  refine ⟨.refl, dm, dm, pl, iv, ?_, fun i d e => ?_, fun i es e => ?_, fun i v e => ?_, fun i e => ?_, fun i j a b p e => ?_⟩
  · unfold startP L2.start
    simp [r.len]
  · rcases get i _ e with ⟨_, z⟩ | ⟨j, d', rfl, ed, z⟩
    · cases z
    · cases z
      obtain ⟨v, a, b⟩ := r.get ed
      refine ⟨v, ?_, b.reM mu⟩
      unfold L2.start
      rw [List.map_cons, List.cons_append, List.getElem?_cons_succ, List.getElem?_append, if_pos (by rw [List.length_map]; exact (List.getElem?_eq_some_iff.mp a).1), List.getElem?_map, a]
      rfl
  · rcases get i _ e with ⟨_, z⟩ | ⟨_, _, _, _, z⟩ <;> cases z
  · rcases get i _ e with ⟨_, z⟩ | ⟨_, _, _, _, z⟩ <;> cases z
  · rcases get i _ e with ⟨rfl, _⟩ | ⟨_, _, _, _, z⟩
    · rfl
    · cases z
  · rcases get i _ e with ⟨_, z⟩ | ⟨_, _, _, _, z⟩ <;> cases z
def TellsN (Q : D → Nat → Prop) : Out → Nat → Prop
  | .rt d, b => Q d b
  | .nx _, b => Q .none b
  | _, _ => False
theorem okFnN {P : Program} {w : World} {K : PySem.W.Frag} {mg : Str → Option Value} {base : Heap} {x qual : Str} {st : Stmt} {f : Addr} {fd : FuncData} {N ps : List Str} {k n : Nat} {F0 : GF} (F : Fun K x qual st f fd) (S : FnScope N ps (defScope st)) (hn : n + 1 = ps.length)
    (walk : ∀ (cdv : Value) (A : Around) (outer : List Env) (s : Shared) (H : Hp) (E : XK), Room k (A.deeper (envOfC qual (defScope st) s.heap.objs.size f cdv)) →
      ∃ fS, PSs (cxOf CX0 P w K mg base N qual (defScope st) f cdv A outer s H E).nox (defBody st) (tSn fS) ∧ ∀ ds b Q, ds.length = n → F0.f ds b Q → fS.w (startP N.length ds) b (TellsN Q)) :
    FnOk P w K mg base CX0 (k + 1) f fd ps (spN n F0) := by
  refine F.ok S (fun vs H Q E h => ?_) (fun cdv A outer s H vs Q E hr h => ?_)
  · obtain ⟨g, M, ws, ds, b, rfl, _, _, _, r, l, _⟩ := h
    rw [← hn, ← l, ← r.len]
    rfl
  · obtain ⟨g, M, ws, ds, b, rfl, pl, dm, iv, r, l, q⟩ := h
    obtain ⟨fS, hS, hw⟩ := walk cdv A outer s H E hr
    refine ⟨_, hS, g, M, H, _, b, r.startN dm pl iv, fS.m (fun o b' t => ?_) (hw ds b _ l q)⟩
    cases o with
    | nx ρ' => exact fun σ' H' R s => (show ∀ v H', KpM g.own H H' → g.inv b' H' → Rp M H' v .none → Q v H' from t) _ _ R.kp R.iv .non
    | rt d' => exact t
    | bk ρ' => exact t.elim
    | ct ρ' => exact t.elim
end Dl
namespace Rt
open PySem PySem.Spec PyProof.Rows L2
section
variable {X : Cx}
/-! ### 'm' * n -/
theorem fold_app : ∀ (l : List (Array Nat)) (b : Array Nat), (l.foldl (· ++ ·) b).toList = b.toList ++ (l.map Array.toList).flatten
  | [], b => by simp
  | x :: r, b => by
    show (r.foldl (· ++ ·) (b ++ x)).toList = _
    rw [fold_app r (b ++ x)]
    simp
def rRepS : R2 := fun x y H Q => ∃ (z : Str) (n : Int), x = .str z ∧ y = .int n ∧ 1 ≤ n ∧ n ≤ 100 ∧ 0 < z.length ∧ z.length ≤ 100 ∧ ∀ r : Str, r.cps.toList = (List.replicate n.toNat z.cps.toList).flatten → r.length = n.toNat * z.length → Q (.str r) H
theorem op_repS : OpR X (binaryOp .Mult) rRepS := by
  intro pn s σ H x y v u Q I rx ry h
  obtain ⟨z, n, rfl, rfl, h1, h2, h3, h4, q⟩ := h
  obtain ⟨t, rfl⟩ := rx
  obtain ⟨t', rfl⟩ := ry
  have hl : z.length * n.toNat ≤ 10000 := Nat.le_trans (Nat.mul_le_mul h4 (show n.toNat ≤ 100 by omega)) (by decide)
  have el : ∀ r : Str, r.cps.toList = (List.replicate n.toNat z.cps.toList).flatten → r.length = n.toNat * z.length := fun r e => by
    show r.cps.size = _
    rw [← Array.length_toList, e, List.length_flatten, List.map_replicate, List.sum_replicate_nat]
    show n.toNat * z.cps.toList.length = n.toNat * z.cps.size
    rw [Array.length_toList]
  refine PySem.P.mul_str ?_ (fun _ _ => ?_) (fun _ _ => ?_) ?_
  · rw [decide_eq_false (by omega), decide_eq_false (by omega)]; rfl
  · have : (100 : Int) ≤ (2 ^ 63 - 1) / n := (Int.le_ediv_iff_mul_le (by omega)).mpr (by omega)
    omega
  · show decide (z.length * n.toNat > sizeLine) = false
    exact decide_eq_false (by have := sz (n := z.length * n.toNat) (by omega); omega)
  · rw [if_neg (by omega)]
    by_cases e : n = 1
    · subst e
      rw [if_pos (by rfl)]
      have e1 : z.cps.toList = (List.replicate (1 : Int).toNat z.cps.toList).flatten := by simp
      exact ⟨.str z, H, I, ⟨_, rfl⟩, q z e1 (el z e1)⟩
    · rw [if_neg (by simp [e]; omega)]
      have e1 : (⟨(List.replicate n.toNat z.cps).foldl (· ++ ·) #[]⟩ : Str).cps.toList = (List.replicate n.toNat z.cps.toList).flatten := by
        show ((List.replicate n.toNat z.cps).foldl (· ++ ·) #[]).toList = _
        rw [fold_app, List.map_replicate]
        rfl
      refine ⟨?_, ⟨.str _, H, I.tok _, ⟨_, rfl⟩, q _ e1 (el _ e1)⟩⟩
      rw [el _ e1, Nat.mul_comm]
      exact sz (by omega)
/-! ### min, max of a tuple of ints -/
theorem holds_ints {h : Heap} : ∀ {ns : List Int} {us : List Value}, Vals (ns.map V.int) us → PySem.W.HoldAll h us ns
  | [], _, .nil => .nil
  | n :: r, _, .cons a t => by
    obtain ⟨tk, rfl⟩ := a
    exact .cons ⟨_, .int n tk⟩ (holds_ints t)
theorem minOf_le : ∀ (xs : List Int) (x : Int), PySem.W.minOf x xs ∈ x :: xs ∧ ∀ y ∈ x :: xs, PySem.W.minOf x xs ≤ y
  | [], x => ⟨List.mem_cons_self, fun y h => (by
    have e : y = x := by simpa using h
    subst e
    exact Int.le_refl _)⟩
  | z :: r, x => by
    have ih := minOf_le r (if z < x then z else x)
    have e : PySem.W.minOf x (z :: r) = PySem.W.minOf (if z < x then z else x) r := by
      show r.foldl _ (if decide (z < x) = true then z else x) = r.foldl _ (if z < x then z else x)
      simp only [decide_eq_true_eq]
    rw [e]
    have hm := ih.2 _ List.mem_cons_self
    have hx : (if z < x then z else x) ≤ x := by split <;> omega
    have hz : (if z < x then z else x) ≤ z := by split <;> omega
    refine ⟨?_, fun y h => ?_⟩
    · rcases List.mem_cons.mp ih.1 with h | h
      · rw [h]; split <;> simp
      · exact List.mem_cons_of_mem _ (List.mem_cons_of_mem _ h)
    · rcases List.mem_cons.mp h with h | h
      · rw [h]; exact Int.le_trans hm hx
      · rcases List.mem_cons.mp h with h | h
        · rw [h]; exact Int.le_trans hm hz
        · exact ih.2 y (List.mem_cons_of_mem _ h)
theorem maxOf_ge : ∀ (xs : List Int) (x : Int), PySem.W.maxOf x xs ∈ x :: xs ∧ ∀ y ∈ x :: xs, y ≤ PySem.W.maxOf x xs
  | [], x => ⟨List.mem_cons_self, fun y h => (by
    have e : y = x := by simpa using h
    subst e
    exact Int.le_refl _)⟩
  | z :: r, x => by
    have ih := maxOf_ge r (if x < z then z else x)
    have e : PySem.W.maxOf x (z :: r) = PySem.W.maxOf (if x < z then z else x) r := by
      show r.foldl _ (if decide (x < z) = true then z else x) = r.foldl _ (if x < z then z else x)
      simp only [decide_eq_true_eq]
    rw [e]
    have hm := ih.2 _ List.mem_cons_self
    have hx : x ≤ (if x < z then z else x) := by split <;> omega
    have hz : z ≤ (if x < z then z else x) := by split <;> omega
    refine ⟨?_, fun y h => ?_⟩
    · rcases List.mem_cons.mp ih.1 with h | h
      · rw [h]; split <;> simp
      · exact List.mem_cons_of_mem _ (List.mem_cons_of_mem _ h)
    · rcases List.mem_cons.mp h with h | h
      · rw [h]; exact Int.le_trans hx hm
      · rcases List.mem_cons.mp h with h | h
        · rw [h]; exact Int.le_trans hz hm
        · exact ih.2 y (List.mem_cons_of_mem _ h)
def rMinT (K : PySem.W.Frag) : List V → Hp → VK → Prop := fun vs H Q => ∃ (a : Addr) (ns : List Int), vs = [V.ref a] ∧ SqT K H a (ns.map V.int) ∧ 0 < ns.length ∧ ∀ m, m ∈ ns → (∀ y, y ∈ ns → m ≤ y) → Q (.int m) H
def rMaxT (K : PySem.W.Frag) : List V → Hp → VK → Prop := fun vs H Q => ∃ (a : Addr) (ns : List Int), vs = [V.ref a] ∧ SqT K H a (ns.map V.int) ∧ 0 < ns.length ∧ ∀ m, m ∈ ns → (∀ y, y ∈ ns → y ≤ m) → Q (.int m) H
theorem cr_minT (hc : X.calm = true) (hu : X.A.units + 64 < cLine) : CallR X (.builtin "min") (rMinT X.K) := by
  intro pn s σ H vs us Q I r h
  obtain ⟨a, ns, rfl, hs, hne, q⟩ := h
  obtain ⟨its, rv, hl, _⟩ := I.tuple hs
  rw [Vals.ref1 r]
  cases ns with
  | nil => exact absurd hne (by decide)
  | cons x xs =>
    have hH : PySem.W.HoldAll s.heap its.toArray.toList (x :: xs) := holds_ints (ns := x :: xs) rv
    refine PySem.W.min_tuple_datum (I.ok.hd hc) hl hH (by show X.A.units + 1 + 0 < cLine; omega) fun i v h' tk hv ho hk => ?_
    obtain ⟨as, ho⟩ := ho
    cases ho with
    | int _ t => exact ⟨.int _, H, I.kept hk, ⟨_, rfl⟩, q _ (minOf_le xs x).1 (minOf_le xs x).2⟩
theorem cr_maxT (hc : X.calm = true) (hu : X.A.units + 64 < cLine) : CallR X (.builtin "max") (rMaxT X.K) := by
  intro pn s σ H vs us Q I r h
  obtain ⟨a, ns, rfl, hs, hne, q⟩ := h
  obtain ⟨its, rv, hl, _⟩ := I.tuple hs
  rw [Vals.ref1 r]
  cases ns with
  | nil => exact absurd hne (by decide)
  | cons x xs =>
    have hH : PySem.W.HoldAll s.heap its.toArray.toList (x :: xs) := holds_ints (ns := x :: xs) rv
    refine PySem.W.max_tuple_datum (I.ok.hd hc) hl hH (by show X.A.units + 1 + 0 < cLine; omega) fun i v h' tk hv ho hk => ?_
    obtain ⟨as, ho⟩ := ho
    cases ho with
    | int _ t => exact ⟨.int _, H, I.kept hk, ⟨_, rfl⟩, q _ (maxOf_ge xs x).1 (maxOf_ge xs x).2⟩
end
end Rt
namespace Dl
open PySem PySem.Spec PyProof.Rows L2 Rt
def lenD : List D → Option D
  | [.tuple ds] => some (.int ds.length)
  | [.list ds] => some (.int ds.length)
  | [.str z] => some (.int z.length)
  | _ => none
def boolsD : List D → Option (List Bool)
  | [] => some []
  | .bool b :: ds => (boolsD ds).map (b :: ·)
  | _ :: _ => none
def intsD : List D → Option (List Int)
  | [] => some []
  | .int b :: ds => (intsD ds).map (b :: ·)
  | _ :: _ => none
theorem RpAll.bools {M : Addr → Prop} {H : Hp} : ∀ {vs : List V} {ds : List D} {bs : List Bool}, RpAll M H vs ds → boolsD ds = some bs → vs = bs.map V.bl
  | _, _, _, .nil, e => by cases e; rfl
  | _, _, _, .cons (d := .bool b) h t, e => by
    obtain ⟨r, er, rfl⟩ := some_map e
    cases h
    rw [t.bools er]
    rfl
  | _, _, _, .cons (d := .none) h t, e => nomatch e
  | _, _, _, .cons (d := .int _) h t, e => nomatch e
  | _, _, _, .cons (d := .str _) h t, e => nomatch e
  | _, _, _, .cons (d := .list _) h t, e => nomatch e
  | _, _, _, .cons (d := .tuple _) h t, e => nomatch e
  | _, _, _, .cons (d := .dict _) h t, e => nomatch e
theorem RpAll.ints {M : Addr → Prop} {H : Hp} : ∀ {vs : List V} {ds : List D} {bs : List Int}, RpAll M H vs ds → intsD ds = some bs → vs = bs.map V.int
  | _, _, _, .nil, e => by cases e; rfl
  | _, _, _, .cons (d := .int b) h t, e => by
    obtain ⟨r, er, rfl⟩ := some_map e
    cases h
    rw [t.ints er]
    rfl
  | _, _, _, .cons (d := .none) h t, e => nomatch e
  | _, _, _, .cons (d := .bool _) h t, e => nomatch e
  | _, _, _, .cons (d := .str _) h t, e => nomatch e
  | _, _, _, .cons (d := .list _) h t, e => nomatch e
  | _, _, _, .cons (d := .tuple _) h t, e => nomatch e
  | _, _, _, .cons (d := .dict _) h t, e => nomatch e
def allD : List D → Option D
  | [.list ds] => (boolsD ds).map fun bs => .bool (bs.all id)
  | _ => none
def anyD : List D → Option D
  | [.list ds] => (boolsD ds).map fun bs => .bool (bs.any id)
  | _ => none
def tupD : List D → Option D
  | [.list ds] => some (.tuple ds)
  | [.tuple ds] => some (.tuple ds)
  | _ => none
def lisD : List D → Option D
  | [.list ds] => some (.list ds)
  | [.tuple ds] => some (.list ds)
  | _ => none
def intD : List D → Option D
  | [.int i] => some (.int i)
  | [.bool b] => some (.int (if b = true then 1 else 0))
  | _ => none
def min2D : List D → Option D
  | [.int i, .int j] => some (.int (if j < i then j else i))
  | _ => none
def max2D : List D → Option D
  | [.int i, .int j] => some (.int (if j > i then j else i))
  | _ => none
def minL : List Int → Option Int
  | [] => none
  | x :: xs => some (xs.foldl min x)
def maxL : List Int → Option Int
  | [] => none
  | x :: xs => some (xs.foldl max x)
def absD : List D → Option D
  | [.int i] => some (.int (if i < 0 then -i else i))
  | _ => none
def sumD : List D → Option D
  | [.list ds] => (intsD ds).map fun ns => .int ns.sum
  | _ => none
section
variable {X : Cx}
theorem c_len : CallR X (.builtin "len") (rC lenD) := by
  intro pn s σ H xs us Q I r h
  obtain ⟨M, ds, d, dm, ra, e, q⟩ := h
  match ds, ra, e with
  | [.tuple ds], .cons (@Rp.tup _ _ a xs1 _ t n l r) .nil, e =>
    cases e
    exact call_len pn s σ H _ us Q I ‹_› ⟨.ref a, xs1.length, rfl, .inr ⟨_, t.sq, rfl⟩, by rw [r.len]; exact q _ _ (Same.refl _) (.int _)⟩
  | [.list ds], .cons (@Rp.lst _ _ a xs1 _ t n l r) .nil, e =>
    cases e
    exact call_len pn s σ H _ us Q I ‹_› ⟨.ref a, xs1.length, rfl, .inl ⟨_, SqL.of t, rfl⟩, by rw [r.len]; exact q _ _ (Same.refl _) (.int _)⟩
  | [.str z], .cons (.str _ l) .nil, e =>
    cases e
    exact call_len pn s σ H _ us Q I ‹_› ⟨.str z, z.length, rfl, ⟨l, rfl⟩, q _ _ (Same.refl _) (.int _)⟩
theorem c_all (hc : X.calm = true) : CallR X (.builtin "all") (rC allD) := by
  intro pn s σ H xs us Q I r h
  obtain ⟨M, ds, d, dm, ra, e, q⟩ := h
  match ds, ra, e with
  | [.list ds], .cons (.lst t n l r) .nil, e =>
    obtain ⟨bs, eb, rfl⟩ := some_map e
    exact cr_all hc pn s σ H _ us Q I ‹_› ⟨_, bs, rfl, by rw [← r.bools eb]; exact SqL.of t, q _ _ (Same.refl _) (.bl _)⟩
theorem c_any (hc : X.calm = true) : CallR X (.builtin "any") (rC anyD) := by
  intro pn s σ H xs us Q I r h
  obtain ⟨M, ds, d, dm, ra, e, q⟩ := h
  match ds, ra, e with
  | [.list ds], .cons (.lst t n l r) .nil, e =>
    obtain ⟨bs, eb, rfl⟩ := some_map e
    exact cr_any hc pn s σ H _ us Q I ‹_› ⟨_, bs, rfl, by rw [← r.bools eb]; exact SqL.of t, q _ _ (Same.refl _) (.bl _)⟩
theorem c_sum (hc : X.calm = true) : CallR X (.builtin "sum") (rC sumD) := by
  intro pn s σ H xs us Q I r h
  obtain ⟨M, ds, d, dm, ra, e, q⟩ := h
  match ds, ra, e with
  | [.list ds], .cons (.lst t n l r) .nil, e =>
    obtain ⟨bs, eb, rfl⟩ := some_map e
    exact cr_sum hc pn s σ H _ us Q I ‹_› ⟨_, bs, rfl, by rw [← r.ints eb]; exact SqL.of t, q _ _ (Same.refl _) (.int _)⟩
theorem c_tuple : CallR X (.type "tuple") (rC tupD) := by
  intro pn s σ H xs us Q I r h
  obtain ⟨M, ds, d, dm, ra, e, q⟩ := h
  match ds, ra, e with
  | [.list ds], .cons (.lst t n l r) .nil, e =>
    cases e
    exact call_tupF pn s σ H _ us Q I ‹_› ⟨_, _, rfl, SqL.of t, fun p o H' np od eH => by
      subst eH
      exact q _ _ (smN np) (.tup ⟨o, upd_same, od⟩ (dm.not np) l (r.mono (.of (smN np))))⟩
  | [.tuple ds], .cons (.tup t n l r) .nil, e =>
    cases e
    exact call_tuple_of pn s σ H _ us Q I ‹_› ⟨_, _, rfl, .inr ⟨t.sq, q _ _ (Same.refl _) (.tup t n l r)⟩⟩
theorem c_list : CallR X (.type "list") (rC lisD) := by
  intro pn s σ H xs us Q I r h
  obtain ⟨M, ds, d, dm, ra, e, q⟩ := h
  match ds, ra, e with
  | [.list ds], .cons (.lst t n l r) .nil, e =>
    cases e
    exact call_list_of pn s σ H _ us Q I ‹_› ⟨_, _, rfl, .inl (SqL.of t), fun p np => q _ _ (smN np) (.lst upd_same (dm.not np) l (r.mono (.of (smN np))))⟩
  | [.tuple ds], .cons (.tup t n l r) .nil, e =>
    cases e
    exact call_list_of pn s σ H _ us Q I ‹_› ⟨_, _, rfl, .inr t.sq, fun p np => q _ _ (smN np) (.lst upd_same (dm.not np) l (r.mono (.of (smN np))))⟩
theorem c_int : CallR X (.type "int") (rC intD) := by
  intro pn s σ H xs us Q I r h
  obtain ⟨M, ds, d, dm, ra, e, q⟩ := h
  match ds, ra, e with
  | [.int i], .cons (.int _) .nil, e => cases e; exact call_int1 pn s σ H _ us Q I ‹_› (.inl ⟨_, rfl, q _ _ (Same.refl _) (.int _)⟩)
  | [.bool i], .cons (.bl _) .nil, e => cases e; exact call_int1 pn s σ H _ us Q I ‹_› (.inr ⟨_, rfl, q _ _ (Same.refl _) (.int _)⟩)
theorem c_min2 (hc : X.calm = true) : CallR X (.builtin "min") (rC min2D) := by
  intro pn s σ H xs us Q I r h
  obtain ⟨M, ds, d, dm, ra, e, q⟩ := h
  match ds, ra, e with
  | [.int i, .int j], .cons (.int _) (.cons (.int _) .nil), e => cases e; exact call_min2 hc pn s σ H _ us Q I ‹_› ⟨_, _, rfl, q _ _ (Same.refl _) (.int _)⟩
theorem c_max2 (hc : X.calm = true) : CallR X (.builtin "max") (rC max2D) := by
  intro pn s σ H xs us Q I r h
  obtain ⟨M, ds, d, dm, ra, e, q⟩ := h
  match ds, ra, e with
  | [.int i, .int j], .cons (.int _) (.cons (.int _) .nil), e => cases e; exact call_max2 hc pn s σ H _ us Q I ‹_› ⟨_, _, rfl, q _ _ (Same.refl _) (.int _)⟩
theorem c_abs : CallR X (.builtin "abs") (rC absD) := by
  intro pn s σ H xs us Q I r h
  obtain ⟨M, ds, d, dm, ra, e, q⟩ := h
  match ds, ra, e with
  | [.int i], .cons (.int _) .nil, e => cases e; exact call_abs pn s σ H _ us Q I ‹_› ⟨_, rfl, q _ _ (Same.refl _) (.int _)⟩
theorem dE_callB {x : Str} {p pos : Pos} {e : Expr} {es : List Expr} {id : String} {g : List D → Option D} {f : Rho → Option (List D)} {μ : Bool} (c : CallR X (.builtin id) (rC g)) (hg : Gl X x) (hm : X.mg x = none) (hv : bootBuiltins x = some (.builtin id)) (ha : PA X (e :: es) (tA μ f))
    (hn : x ≠ "__name__" := by decide) (hdb : (x == ("__debug__" : Str)) = false := by decide) (he : starEach (e :: es) X.env = (false, eval e X.env) :: starEach es X.env := by rfl) (hpl : (backTo pos (starEach es X.env)).any (·.1) = false := by rfl) :
    PE X (.Call (.Name x p) (e :: es) [] pos) (tD μ (eCall g f)) := (pe_callB c hg hm hv ha hn hdb he hpl).wk fun _ _ _ q => dCall q
theorem dE_callTy {x : Str} {p pos : Pos} {e : Expr} {es : List Expr} {T : String} {g : List D → Option D} {f : Rho → Option (List D)} {μ : Bool} (c : CallR X (.type T) (rC g)) (hg : Gl X x) (hm : X.mg x = none) (hv : bootBuiltins x = some (.type T)) (ha : PA X (e :: es) (tA μ f))
    (hn : x ≠ "__name__" := by decide) (hdb : (x == ("__debug__" : Str)) = false := by decide) (he : starEach (e :: es) X.env = (false, eval e X.env) :: starEach es X.env := by rfl) (hpl : (backTo pos (starEach es X.env)).any (·.1) = false := by rfl) :
    PE X (.Call (.Name x p) (e :: es) [] pos) (tD μ (eCall g f)) := (pe_callTy c hg hm hv ha hn hdb he hpl).wk fun _ _ _ q => dCall q
/-! isinstance -/
def tyN : D → String
  | .none => "NoneType"
  | .bool _ => "bool"
  | .int _ => "int"
  | .str _ => "str"
  | .list _ => "list"
  | .tuple _ => "tuple"
  | .dict _ => "dict"
def isTy (T : String) (d : D) : Option D := (kitB (tyN d) T).map .bool
theorem Rp.ty {K : PySem.W.Frag} {M : Addr → Prop} {H : Hp} {v : V} {d : D} (r : Rp M H v d) : TyX K H v (.type (tyN d)) := by
  cases r with
  | non => exact .base .non
  | bl b => exact .base (.bl b)
  | int i => exact .base (.int i)
  | str x hx => exact .base (.str x)
  | tup t n l r => obtain ⟨o, e, _⟩ := t; exact .fTuple e
  | lst t n l r => exact .base (.lst t)
  | dic t n => exact .base (.dK t)
theorem dE_isi {p pos : Pos} {e e2 : Expr} {T : String} {f : EF} {μ : Bool} (h : PE X e (tD μ f)) (hT : PE X e2 (tC (.ty T))) (hg : Gl X "isinstance") (hm : X.mg "isinstance" = none) (hv : bootBuiltins "isinstance" = some (.builtin "isinstance"))
    (he : starEach (e :: [e2]) X.env = (false, eval e X.env) :: starEach [e2] X.env := by rfl) (he2 : starEach (e2 :: []) X.env = (false, eval e2 X.env) :: starEach [] X.env := by rfl) (hpl : (backTo pos (starEach [e2] X.env)).any (·.1) = false := by rfl) :
    PE X (.Call (.Name "isinstance" p) [e, e2] [] pos) (tD μ (e1 (isTy T) f)) := (pe_callB call_isi hg hm hv (pa_cons h (pa_cons hT pa_nil he2) he) (by decide) (by decide) he hpl).wk fun σ H Q q => by
  obtain ⟨M0, H0, ρ, d, R, e, q⟩ := q
  obtain ⟨d1, e1, e⟩ := some_bind e
  obtain ⟨b, eb, rfl⟩ := some_map e
  exact ⟨M0, H0, ρ, d1, R, e1, fun v H1 s1 r1 => ⟨v, .ty T, .type (tyN d1), .type T, b, rfl, .ty T, r1.ty, kit_ty eb, q _ _ s1 (.bl _)⟩⟩
/-! signs of a text, one by one -/
def strL (z : Str) : List D := z.cps.toList.map fun c => .str ⟨#[c]⟩
def itStr (f : EF) : Rho → Option (List D) := fun ρ => (f ρ).bind fun d => match d with
  | .str z => some (strL z)
  | _ => none
theorem dI_str {tg e : Expr} {f : EF} {μ : Bool} (h : PE X e (tD μ f)) : PI X tg e (iD μ false (itStr f)) := (pi_str h).wk fun σ H R q => by
  obtain ⟨M0, H0, ρ, items, Rr, e, q⟩ := q
  obtain ⟨d, ed, e⟩ := some_bind e
  refine ⟨M0, H0, ρ, d, Rr, ed, fun v H1 s1 r1 => ?_⟩
  cases r1 <;> try (cases e; done)
  rename_i z l
  cases e
  have hl : (strL z).length = z.cps.size := by unfold strL; rw [List.length_map, Array.length_toList]
  refine ⟨z, rfl, q _ _ s1 fun M' hM => ⟨⟨_, _, by rw [hl]; exact walk_str, fun _ _ => trivial, fun i v Ha Hb k y => ?_⟩, by rw [hl]; exact l⟩⟩
  obtain ⟨rfl, c, ec, rfl⟩ := y
  refine ⟨.str ⟨#[c]⟩, ?_, Same.refl _, .inl (.str _ (show 1 ≤ sizeLine by decide))⟩
  unfold strL
  rw [List.getElem?_map, Array.getElem?_toList, ec]
  rfl
/-! tuple(range(n)), t * n -/
def tTupRg (te : L2.St → Hp → (Int → Int → Hp → Prop) → Prop) : TE := fun σ H Q => te σ H fun a b H1 => RgOk a b ∧ ∀ p H', H1 p = none → Same H1 H' → TupF H' p (rgV a b) → Q (.ref p) H'
theorem pe_tupRg {e : Expr} {te : L2.St → Hp → (Int → Int → Hp → Prop) → Prop} {p pos : Pos} (hc : X.calm = true) (hg : Gl X "tuple") (hm : X.mg "tuple" = none) (he : PRg X e te) (na : starEach [e] X.env = (false, eval e X.env) :: starEach [] X.env := by rfl) :
    PE X (.Call (.Name "tuple" p) [e] [] pos) (tTupRg te) := ⟨fun pn s σ H Q I h => Call_ (ld_blt I hg hm boot_tuple (callWith_type1 (args_cons (thn (he pn s σ H _ I h) fun x s1 ⟨r, a, b, t, u, v, H1, ex, hr, I1, ok, q⟩ => args_nil (by
    subst ex
    obtain ⟨b1, b2, b3, b4, b5⟩ := ok
    refine call_tuple_range (I1.ok.hd hc) hr (small_one b1 b2 b3 b4) (rangeSize_nat a b) b5 fun h' tk acc hk hi => ?_
    have J : L2.Inv X pn σ H1 { s1 with heap := h', toks := tk } := I1.kept (t' := tk) hk
    have J2 := Inv.tupF J (vals_rg hi) (by rw [rgV_length]; exact Nat.le_trans b5 (by decide))
    have fr := J.hok.fresh (Nat.le_refl h'.objs.size)
    rw [Array.toArray_toList] at J2
    exact ⟨.ref h'.objs.size, _, J2, rfl, q _ _ fr (smN fr) ⟨_, upd_same, rfl⟩⟩)) na) na) (by decide) (by decide)) rfl⟩
def eTupRg (f : EF) : EF := fun ρ => (f ρ).bind fun d => match d with
  | .int n => if -(2 ^ 62) ≤ n ∧ n < 2 ^ 20 then some (.tuple (rgD 0 n.toNat)) else none
  | _ => none
theorem rgV_rp {M : Addr → Prop} {H : Hp} (n : Int) : RpAll M H (rgV 0 n) (rgD 0 n.toNat) := by
  unfold rgV rgD
  rw [Int.sub_zero]
  induction (List.range n.toNat) with
  | nil => exact .nil
  | cons i r ih => exact .cons (.int _) ih
theorem dE_tupRg {e : Expr} {p pos p2 pos2 : Pos} {f : EF} {μ : Bool} (hc : X.calm = true) (hg : Gl X "tuple") (hm : X.mg "tuple" = none) (hg2 : Gl X "range") (hm2 : X.mg "range" = none) (h : PE X e (tD μ f)) (na : starEach [(Expr.Call (.Name "range" p2) [e] [] pos2)] X.env = (false, eval (Expr.Call (.Name "range" p2) [e] [] pos2) X.env) :: starEach [] X.env := by rfl) (nb : starEach [e] X.env = [(false, eval e X.env)] := by rfl) :
    PE X (.Call (.Name "tuple" p) [.Call (.Name "range" p2) [e] [] pos2] [] pos) (tD μ (eTupRg f)) := (pe_tupRg hc hg hm (prg_1 hg2 hm2 h nb) na).wk fun σ H Q q => by
  obtain ⟨M0, H0, ρ, d, R, e, q⟩ := q
  obtain ⟨d1, e1, e⟩ := some_bind e
  refine ⟨M0, H0, ρ, d1, R, e1, fun v H1 s1 r1 => ?_⟩
  cases r1 <;> try (cases e; done)
  rename_i n
  obtain ⟨l, rfl⟩ := iteS e
  refine ⟨n, rfl, ⟨by decide, by decide, l.1, by omega, by omega⟩, fun a H2 np s2 t => q _ _ (s1.trans s2) (.tup t (((R.mono s1).domu μ).not np) (by rw [rgV_length]; exact szR (by omega)) (rgV_rp n))⟩
/-- t * k -/
def rRepF : R2 := fun x y H Q => ∃ l k xs, x = .ref l ∧ y = .int k ∧ TupF H l xs ∧ xs ≠ [] ∧ 1 ≤ k ∧ k ≤ 1000 ∧ xs.length ≤ 1000 ∧ ∀ p H', (H p = none ∨ p = l) → Same H H' → TupF H' p (List.replicate k.toNat xs).flatten → Q (.ref p) H'
theorem arr_fold {α : Type} : ∀ (l : List (Array α)) (b : Array α), (l.foldl (fun x1 x2 => x1 ++ x2) b).toList = b.toList ++ (l.map Array.toList).flatten
  | [], b => by simp
  | a :: l, b => by
    rw [List.foldl_cons, arr_fold l, Array.toList_append, List.map_cons, List.flatten_cons, List.append_assoc]
theorem vals_rep {xs : List V} {us : List Value} (r : Vals xs us) : ∀ n : Nat, Vals (List.replicate n xs).flatten (List.replicate n us).flatten
  | 0 => .nil
  | n + 1 => by
    rw [List.replicate_succ, List.replicate_succ, List.flatten_cons, List.flatten_cons]
    exact r.append (vals_rep r n)
theorem rep_len {α : Type} {xs : List α} (n : Nat) : (List.replicate n xs).flatten.length = n * xs.length := by
  rw [List.length_flatten, List.map_replicate, List.sum_replicate_nat]
theorem op_repF : OpR X (binaryOp .Mult) rRepF := by
  intro pins s σ H x y v u Q I rx ry h
  obtain ⟨l, k, xs, rfl, rfl, hT, hne, h1, h2, hz, q⟩ := h
  cases rx
  obtain ⟨t, rfl⟩ := ry
  obtain ⟨its, r, ⟨⟨cls, dd, data, sl⟩, ho, hc, n, hd⟩, hs⟩ := I.tuple (hT.sq (K := X.K))
  simp only at hc hd
  subst hc hd
  by_cases e : k = 1
  · subst e
    refine wpAny_binaryOp_repeat_ref (T := "tuple") (U := "int") (by decide) ⟨_, ho, rfl⟩ (fun s' => typeIs_int s' 1 t) noFill_tuple_mul F.fills_int_mul F.slot_int_rmul repeat_tuple F.slot_int_index.lookup
      (call_meets F.slot_int_rmul (typeIs_int s 1 t) F.entry_int_rmul (F.args_int_rmul_2 _ _) (int_rmul_tuple 1 t l its.toArray n dd sl)
        ⟨ho, rfl, ⟨_, ho, rfl⟩, call_meets F.slot_tuple_mul ⟨_, ho, rfl⟩ F.entry_tuple_mul (F.args_tuple_mul_2 _ _) (tuple_mul1 l its.toArray n dd sl t (by simp)) ⟨ho, ?_⟩⟩)
    refine ⟨.ref l, H, I, rfl, q l H (.inr rfl) (Same.refl H) ?_⟩
    simpa using hT
  · have hl := r.length
    have n0 : 0 < its.length := by
      rw [← hl]
      exact List.length_pos_iff.mpr hne
    have ie : its.toArray.isEmpty = false := by
      cases its with
      | nil => exact absurd n0 (by decide)
      | cons a b => rfl
    have fl : (List.foldl (fun x1 x2 => x1 ++ x2) #[] (List.replicate k.toNat its.toArray)).toList = (List.replicate k.toNat its).flatten := by
      rw [arr_fold, List.map_replicate]
      simp
    have sz2 : (List.replicate k.toNat its).flatten.length ≤ sizeLine := by
      rw [rep_len]
      have h3 : k.toNat * its.length ≤ 1000 * 1000 := Nat.mul_le_mul (by omega) (by omega)
      exact Nat.le_trans h3 (by decide)
    have hb : (its.length : Int) * k ≤ 1000 * 1000 := Int.mul_le_mul (by omega) h2 (by omega) (by decide)
    have hb0 : 0 ≤ (its.length : Int) * k := Int.mul_nonneg (by omega) (by omega)
    refine wpAny_binaryOp_repeat_ref (T := "tuple") (U := "int") (by decide) ⟨_, ho, rfl⟩ (fun s' => typeIs_int s' k t) noFill_tuple_mul F.fills_int_mul F.slot_int_rmul repeat_tuple F.slot_int_index.lookup
      (call_meets F.slot_int_rmul (typeIs_int s k t) F.entry_int_rmul (F.args_int_rmul_2 _ _) (int_rmul_tuple k t l its.toArray n dd sl)
        ⟨ho, rfl, ⟨_, ho, rfl⟩, call_meets F.slot_tuple_mul ⟨_, ho, rfl⟩ F.entry_tuple_mul (F.args_tuple_mul_2 _ _) (tuple_mulW l its.toArray n dd sl k t (by simp; omega) (by rw [ie]; simpa using e) (by rw [ie]; simp; omega) ?_ ?_ ?_) ⟨ho, ?_⟩⟩)
    · rw [List.size_toArray]
      have : ((2 : Int) ^ 63 - 1) / 8 = 1152921504606846975 := by decide
      omega
    · rw [List.size_toArray]
      unfold Builtin.Tuple.tupleTooMany
      refine decide_eq_false ?_
      have : ((sizeLine : Nat) : Int) = 16777216 := by decide
      omega
    · rw [← Array.length_toList, fl]; exact sz2
    · have fr := I.hok.fresh (Nat.le_refl s.heap.objs.size)
      have J := Inv.tupF I (vals_rep r k.toNat) (by rw [rep_len, hl, ← rep_len]; exact sz2)
      rw [← fl, Array.toArray_toList] at J
      exact ⟨.ref s.heap.objs.size, _, J, rfl, q _ _ (.inl fr) (smN fr) ⟨_, upd_same, rfl⟩⟩
theorem RpAll.rep {M : Addr → Prop} {H : Hp} {vs : List V} {ds : List D} (h : RpAll M H vs ds) : ∀ n : Nat, RpAll M H (List.replicate n vs).flatten (List.replicate n ds).flatten
  | 0 => .nil
  | n + 1 => by
    rw [List.replicate_succ, List.replicate_succ, List.flatten_cons, List.flatten_cons]
    exact h.app (h.rep n)
def repS (z : Str) (n : Nat) : Str := ⟨(List.replicate n z.cps.toList).flatten.toArray⟩
def mulX : D → D → Option D
  | .int i, .int j => mulD (.int i) (.int j)
  | .tuple ds, .int k => if ds ≠ [] ∧ 1 ≤ k ∧ k ≤ 1000 ∧ ds.length ≤ 1000 then some (.tuple (List.replicate k.toNat ds).flatten) else none
  | .list ds, .int k => if 0 ≤ k ∧ k ≤ 1000 ∧ ds.length ≤ 1000 then some (.list (List.replicate k.toNat ds).flatten) else none
  | .str z, .int n => if 1 ≤ n ∧ n ≤ 100 ∧ 0 < z.length ∧ z.length ≤ 100 then some (.str (repS z n.toNat)) else none
  | _, _ => none
theorem o_mulX : OpR X (binaryOp .Mult) (rD mulX) := by
  intro pn s σ H x y v u Q I rx ry h
  obtain ⟨M, a, b, d, dm, ra, rb, e, q⟩ := h
  cases ra <;> cases rb <;> try (cases e; done)
  · exact o_mul pn s σ H _ _ v u Q I rx ry ⟨M, _, _, d, dm, .int _, .int _, e, q⟩
  · rename_i z hz n
    obtain ⟨l, rfl⟩ := iteS e
    refine op_repS pn s σ H _ _ v u Q I rx ry ⟨_, _, rfl, rfl, l.1, l.2.1, l.2.2.1, l.2.2.2, fun r hr _ => ?_⟩
    have : r = repS z n.toNat := by
      cases r with
      | mk a =>
        unfold repS
        congr
        rw [← Array.toArray_toList (xs := a), ← hr]
    rw [this]
    refine q _ _ (Same.refl _) (.str _ ?_)
    unfold repS
    show (List.toArray _).size ≤ _
    rw [List.size_toArray, rep_len, Array.length_toList]
    exact Nat.le_trans (Nat.mul_le_mul (show n.toNat ≤ 100 by omega) l.2.2.2) (by decide)
  · rename_i t n l r k
    obtain ⟨l2, rfl⟩ := iteS e
    have hl := r.len
    refine op_repF pn s σ H _ _ v u Q I rx ry ⟨_, _, _, rfl, rfl, t, fun z => l2.1 ?_, l2.2.1, l2.2.2.1, by rw [hl]; exact l2.2.2.2, fun p H' hp sm t' => q _ _ sm (.tup t' (fun m => ?_) ?_ ((r.mono (.of sm)).rep _))⟩
    · subst z; cases r; rfl
    · rcases hp with hp | hp
      · exact dm p m hp
      · rw [hp] at m; exact n m
    · rw [rep_len, hl]
      exact Nat.le_trans (Nat.mul_le_mul (show k.toNat ≤ 1000 by omega) l2.2.2.2) (by decide)
  · rename_i t n l r k
    obtain ⟨l2, rfl⟩ := iteS e
    have hl := r.len
    have hm : (List.length ‹List V›) * k.toNat ≤ sizeLine := by
      rw [hl]
      exact Nat.le_trans (Nat.mul_le_mul l2.2.2 (show k.toNat ≤ 1000 by omega)) (by decide)
    exact op_rep pn s σ H _ _ v u Q I rx ry ⟨_, _, _, rfl, rfl, t, by omega, by omega, hm, fun p hp => q _ _ (smN hp) (.lst upd_same (dm.not hp) (by rw [rep_len, Nat.mul_comm]; exact hm) ((r.mono (.of (smN hp))).rep _))⟩
end
end Dl
namespace Dl
open PySem PySem.Spec PyProof.Rows L2 Rt
theorem u65 {k : Nat} {A : Around} (r : Room k A) : A.units + 65 < cLine := by
  have := r.un
  omega
section
variable {X : Cx} {K : PySem.W.Frag}
theorem dE_lc {e : Expr} {it : Rho → Option (List D)} {p : Pat} {c : Rho → Option Bool} {f : EF} {vs : List Nat} {μ μi pr : Bool} (h : PE X e (tLc (iD μ pr it) (gP K p) (tT c) (tD μi f) vs)) (hp : p.fits pr = true := by rfl) (hs : ∀ j, j ∈ slP p → j ∈ vs := by decide) : PE X e (tD μ (eLc μ vs it p c f)) := h.wk fun _ _ _ q => dLc hp hs q
theorem dS_lc {st : Stmt} {i : Nat} {it : Rho → Option (List D)} {p : Pat} {c : Rho → Option Bool} {f : EF} {vs : List Nat} {μi pr : Bool} (h : PS X st (tAsg (tLc (iD true pr it) (gP K p) (tT c) (tD μi f) vs) (gName i))) (hp : p.fits pr = true := by rfl) (hs : ∀ j, j ∈ slP p → j ∈ vs := by decide) : PS X st (tS (sAsg (.nm i) (eLc true vs it p c f))) :=
  dS_asg (K := K) (h.wk fun Dn σ H q => dLc hp hs q)
theorem oS_lc {st : Stmt} {i : Nat} {it : Rho → Option (List D)} {p : Pat} {c : Rho → Option Bool} {f : EF} {vs : List Nat} {μi pr : Bool} (h : PS X st (tAsg (tLc (iD true pr it) (gP K p) (tT c) (tD μi f) vs) (gName i))) (hp : p.fits pr = true := by rfl) (hs : ∀ j, j ∈ slP p → j ∈ vs := by decide) : PS X st (tS (sOwn i (eLc true vs it p c f))) :=
  dS_own (h.wk fun Dn σ H q => nLc hp hs q)
theorem nE_lc {e : Expr} {it : WP (List D)} {p : Pat} {c : WP Bool} {f : WP D} {vs : List Nat} {pr : Bool} (h : PE X e (tLc (inn pr it) (gP K p) (tnT c) (tn f) vs)) (hp : p.fits pr = true := by rfl) (hs : ∀ j, j ∈ slP p → j ∈ vs := by decide) : PE X e (tn (wLc vs it p c f)) := h.wk fun _ _ _ q => nLcE hp hs q
theorem nS_lc {st : Stmt} {i : Nat} {it : WP (List D)} {p : Pat} {c : WP Bool} {f : WP D} {vs : List Nat} {pr : Bool} (h : PS X st (tAsg (tLc (inn pr it) (gP K p) (tnT c) (tn f) vs) (gName i))) (hp : p.fits pr = true := by rfl) (hs : ∀ j, j ∈ slP p → j ∈ vs := by decide) : PS X st (tSn (swAsg (.nm i) (wLc vs it p c f))) :=
  nS_asg (K := K) (h.wk fun Dn σ H q => nLcE hp hs q)
theorem nO_lc {st : Stmt} {i : Nat} {it : WP (List D)} {p : Pat} {c : WP Bool} {f : WP D} {vs : List Nat} {pr : Bool} (h : PS X st (tAsg (tLc (inn pr it) (gP K p) (tnT c) (tn f) vs) (gName i))) (hp : p.fits pr = true := by rfl) (hs : ∀ j, j ∈ slP p → j ∈ vs := by decide) : PS X st (tSn (swOwn i (wLc vs it p c f))) :=
  nS_own (h.wk fun Dn σ H q => nLcN hp hs q)
theorem nE_callB {x : Str} {p pos : Pos} {e : Expr} {es : List Expr} {id : String} {g : List D → Option D} {f : WP (List D)} (c : CallR X (.builtin id) (rC g)) (hg : Gl X x) (hm : X.mg x = none) (hv : bootBuiltins x = some (.builtin id)) (ha : PA X (e :: es) (tnA f))
    (hn : x ≠ "__name__" := by decide) (hdb : (x == ("__debug__" : Str)) = false := by decide) (he : starEach (e :: es) X.env = (false, eval e X.env) :: starEach es X.env := by rfl) (hpl : (backTo pos (starEach es X.env)).any (·.1) = false := by rfl) :
    PE X (.Call (.Name x p) (e :: es) [] pos) (tn (wB f g)) := (pe_callB c hg hm hv ha hn hdb he hpl).wk fun _ _ _ q => nCall q
theorem nE_callTy {x : Str} {p pos : Pos} {e : Expr} {es : List Expr} {T : String} {g : List D → Option D} {f : WP (List D)} (c : CallR X (.type T) (rC g)) (hg : Gl X x) (hm : X.mg x = none) (hv : bootBuiltins x = some (.type T)) (ha : PA X (e :: es) (tnA f))
    (hn : x ≠ "__name__" := by decide) (hdb : (x == ("__debug__" : Str)) = false := by decide) (he : starEach (e :: es) X.env = (false, eval e X.env) :: starEach es X.env := by rfl) (hpl : (backTo pos (starEach es X.env)).any (·.1) = false := by rfl) :
    PE X (.Call (.Name x p) (e :: es) [] pos) (tn (wB f g)) := (pe_callTy c hg hm hv ha hn hdb he hpl).wk fun _ _ _ q => nCall q
/-- x = x + e, both lists, x one's own -/
def eCat (i : Nat) (f : EF) : EF := fun ρ => match ρ[i]? with
  | some (some (.own ds)) => (f ρ).bind fun d => match d with
    | .list es => if ds.length + es.length ≤ sizeLine then some (.list (ds ++ es)) else none
    | _ => none
  | _ => none
theorem oE_cat {a b : Expr} {pos : Pos} {i : Nat} {f : EF} (ha : PE X a (tVar i)) (hb : PE X b (tD true f)) : PE X (.BinOp a .Add b pos) (tN (eCat i f)) := (pe_op op_cat ha hb).wk fun σ H Q q => by
  obtain ⟨M0, H0, ρ, es, R, e, q⟩ := q
  unfold eCat at e
  split at e
  · rename_i ds z
    obtain ⟨d, ed, e⟩ := some_bind e
    obtain ⟨p, vs, a, b, c, l, r⟩ := R.own i ds z
    refine ⟨.ref p, a, M0, H0, ρ, d, R, ed, fun v H1 s1 r1 => ?_⟩
    cases r1 <;> try (cases e; done)
    rename_i t n l1 r1
    obtain ⟨l2, e3⟩ := iteS e
    cases e3
    refine ⟨_, _, _, _, rfl, rfl, s1 _ _ b, t, by rw [r.len, r1.len]; exact l2, fun p2 hp2 => q p2 _ _ ?_ (s1.trans (smN hp2)) upd_same (by rw [List.length_append, r.len, r1.len]; exact l2) ?_⟩
    · cases z : H p2 with
      | none => rfl
      | some o => rw [s1 _ _ z] at hp2; cases hp2
    · have k : ∀ a, Mi true M0 σ ρ p2 a → Mu true M0 σ ρ a ∨ ‹Hp› a = none := fun a m => by
        rcases m with m | rfl
        · exact .inl m
        · exact .inr hp2
      exact (((r.mono (.of s1)).reM k).mono (.of (smN hp2))).app ((r1.reM k).mono (.of (smN hp2)))
  · cases e
def wCat (i : Nat) (f : WP D) : WP D := ⟨fun ρ b Q => ∃ ds, ρ[i]? = some (some (.own ds)) ∧ f.w ρ b fun d b' => ∃ es, d = .list es ∧ ds.length + es.length ≤ sizeLine ∧ Q (.list (ds ++ es)) b', fun h ⟨ds, e, z⟩ => ⟨ds, e, f.m (fun d b' ⟨es, e1, l, y⟩ => ⟨es, e1, l, h _ _ y⟩) z⟩⟩
theorem nO_cat {a b : Expr} {pos : Pos} {i : Nat} {f : WP D} (ha : PE X a (tVar i)) (hb : PE X b (tn f)) : PE X (.BinOp a .Add b pos) (tnN (wCat i f)) := (pe_op op_cat ha hb).wk fun σ H Q q => by
  obtain ⟨g, M0, H0, ρ, b, R, ds, z, q⟩ := q
  obtain ⟨p, vs, a, c, h0, l, r⟩ := R.own i ds z
  refine ⟨.ref p, a, g, M0, H0, ρ, b, R, f.m (fun d b1 ⟨es, e1, l2, q⟩ v H1 k1 i1 r1 => ?_) q⟩
  obtain ⟨es', e3, q⟩ := q
  cases e3
  subst e1
  cases r1 with
  | lst t n l1 r1 =>
    have c1 := k1 _ _ (fun o => R.dom0 p (R.pl p o) h0) c
    refine ⟨_, _, _, _, rfl, rfl, c1, t, by rw [r.len, r1.len]; exact l2, fun p2 hp2 => q p2 _ _ ?_ (k1.tr (.of (smN hp2))) (Pl.same i1 (smN hp2)) upd_same (by rw [List.length_append, r.len, r1.len]; exact l2) ?_⟩
    · cases z : H p2 with
      | none => rfl
      | some o =>
        by_cases ow : g.own p2
        · exact (g.alive i1 ow hp2).elim
        · rw [k1 _ _ ow z] at hp2; cases hp2
    · have k : ∀ a, Mi true M0 σ ρ p2 a → Mu true M0 σ ρ a ∨ H1 a = none := fun a m => by
        rcases m with m | rfl
        · exact .inl m
        · exact .inr hp2
      exact (((r.mono fun p o n e => k1 p o (fun z => n (.inl (R.pl p z))) e).reM k).mono (.of (smN hp2))).app ((r1.reM k).mono (.of (smN hp2)))
def sPar (i j : Nat) (f : Rho → Option (List D)) : Rho → Option Out := fun ρ => (f ρ).bind fun ds => match ds with
  | [a, b] => some (.nx ((ρ.set i (some (.dat a))).set j (some (.dat b))))
  | _ => none
theorem dS_par {st : Stmt} {i j : Nat} {f : Rho → Option (List D)} (h : PS X st (tPar i j (tA true f))) : PS X st (tS (sPar i j f)) := h.wk fun Dn σ H q => by
  obtain ⟨M0, H0, ρ, o, R, e, q⟩ := tS_iff.mp q
  obtain ⟨ds, ed, e⟩ := some_bind e
  refine ⟨M0, H0, ρ, ds, R, ed, fun vs H1 s1 r1 => ?_⟩
  match ds, vs, r1, e with
  | [a, b], [v, w], .cons ra (.cons rb .nil), e =>
    cases e
    have sh : ∀ a', Mu true M0 (σ.set i (some v)) (ρ.set i (some (.dat a))) a' → Mu true M0 σ ρ a' := Mu.shrink fun ds e => by cases e
    have R1 := (R.mono s1).set (i := i) ra
    have R2 := R1.set (i := j) (rb.reM fun a m => .inl (sh a m))
    refine ⟨v, w, rfl, q _ _ R2 ((Stp.of s1).trans ⟨.refl, fun p m => .inl (sh p (Mu.shrink (fun ds e => by cases e) p m))⟩)⟩
def swPar (i j : Nat) (f : WP (List D)) : WP Out := ⟨fun ρ b Q => f.w ρ b fun ds b' => ∃ x y, ds = [x, y] ∧ Q (.nx ((ρ.set i (some (.dat x))).set j (some (.dat y)))) b', fun h z => f.m (fun ds b' ⟨x, y, e, w⟩ => ⟨x, y, e, h _ _ w⟩) z⟩
theorem nS_par {st : Stmt} {i j : Nat} {f : WP (List D)} (h : PS X st (tPar i j (tnA f))) : PS X st (tSn (swPar i j f)) := h.wk fun Dn σ H q => by
  obtain ⟨g, M0, H0, ρ, b, R, q⟩ := q
  refine ⟨g, M0, H0, ρ, b, R, f.m (fun ds b1 ⟨x, y, e, q⟩ vs H1 k1 i1 r1 => ?_) q⟩
  subst e
  match vs, r1 with
  | [v, w], .cons ra (.cons rb .nil) =>
    have sh : ∀ a', Mu true M0 (σ.set i (some v)) (ρ.set i (some (.dat x))) a' → Mu true M0 σ ρ a' := Mu.shrink fun ds e => by cases e
    have R1 := (R.up k1 i1).set (i := i) ra
    have R2 := R1.set (i := j) (rb.reM fun a m => .inl (sh a m))
    refine ⟨v, w, rfl, q _ _ R2 ((R.stp k1).trans ⟨.refl, fun p m => .inl (sh p (Mu.shrink (fun ds e => by cases e) p m))⟩)⟩
/-- a def of a pool's family in the layer's words -/
theorem _root_.L2.FnOk.wk {P : Program} {w : World} {mg : Str → Option Value} {base : Heap} {k : Nat} {f : Addr} {fd : FuncData} {ps : List Str} {sp sp' : Sp} (F : FnOk P w K mg base CX0 k f fd ps sp) (m : ∀ vs H Q E, sp' vs H Q E → sp vs H Q E) : FnOk P w K mg base CX0 k f fd ps sp' :=
  ⟨fun vs H Q E h => F.len vs H Q E (m _ _ _ _ h), fun A outer s H args us vs Q E room e b v h => F.run A outer s H args us vs Q E room e b v (m _ _ _ _ h)⟩
end
end Dl
namespace Dl
open PySem PySem.Spec PyProof.Rows L2 Rt
theorem sub_dict_str : isSubtype (.type "dict") (.type "str") = pure false := by
  rw [isSubtype_type]
  rfl
theorem sub_str_dict : isSubtype (.type "str") (.type "dict") = pure false := by
  rw [isSubtype_type]
  rfl
theorem str_eq_no_dict (b : Str) (u : Tok) (l : Addr) (o : Obj) (es : Array DictEntry) (n : Nat) (hc : o.cls = .type "dict") (hd : o.data = .dict es n) : Meets (Builtin.«str.__eq__» { pos := [.str b u, .ref l] }) fun _ R s => s.heap.get? l = some o ∧ R (.ok (.ret .notImplemented)) s :=
  Meets.of_wp fun prog w A R s h => by
    obtain ⟨hp, g, d, tk, os⟩ := s
    obtain ⟨hl, h⟩ := h
    obtain ⟨cls, dd, dat, sl⟩ := o
    cases hc
    cases hd
    unfold Builtin.«str.__eq__»
    refine wpAny_bind (wpAny_bind ?_)
    unfold slotArgs
    refine wpAny_ite_false rfl (wpAny_ite_false rfl (wpAny_pure (wpAny_bind ?_)))
    unfold Builtin.Str.textOf
    refine wpAny_bind (wpAny_pure (wpAny_pure (wpAny_pure (wpAny_bind ?_))))
    unfold asStr?
    refine wpAny_bind (wpAny_load hl (wpAny_pure (wpAny_bind (wpAny_rule (wpAny_pure ⟨_, rfl, h⟩)))))
theorem dict_eq_no_str (b : Str) (u : Tok) (l : Addr) (o : Obj) (es : Array DictEntry) (n : Nat) (hc : o.cls = .type "dict") (hd : o.data = .dict es n) : Meets (Builtin.«dict.__eq__» { pos := [.ref l, .str b u] }) fun _ R s => s.heap.get? l = some o ∧ R (.ok (.ret .notImplemented)) s :=
  Meets.of_wp fun prog w A R s h => by
    obtain ⟨hp, g, d, tk, os⟩ := s
    obtain ⟨hl, h⟩ := h
    obtain ⟨cls, dd, dat, sl⟩ := o
    cases hc
    cases hd
    unfold Builtin.«dict.__eq__»
    refine wpAny_bind ?_
    unfold Builtin.Dict.dictSlotArgs
    refine wpAny_bind ?_
    unfold Builtin.Dict.notOrdered
    refine wpAny_ite_false rfl (wpAny_pure (wpAny_bind ?_))
    unfold slotArgs
    refine wpAny_ite_false rfl (wpAny_ite_false rfl (wpAny_pure (wpAny_pure (wpAny_bind ?_))))
    unfold isInstance
    refine wpAny_bind (wpAny_pure (wpAny_of_eq sub_str_dict (wpAny_ite_true rfl (wpAny_bind (wpAny_rule (wpAny_pure ⟨_, rfl, h⟩))))))
theorem rc_str_dict {A : Around} {s : Shared} {l : Addr} {o : Obj} {es : Array DictEntry} {n : Nat} (b : Str) (u : Tok) (ho : s.heap.get? l = some o) (hc : o.cls = .type "dict") (hd : o.data = .dict es n) (hu : A.units < cLine) : SeqAt.RcAt A s (.str b u) (.ref l) false := fun prog w E Q h =>
  SeqAt.rc_eq_decline_or (typeIs_str s b u) ⟨o, ho, hc⟩ (by decide) sub_dict_str F.slot_str_eq F.slot_dict_eq_refl
    (fun _ hq => call_meets F.slot_str_eq (typeIs_str s b u) F.entry_str_eq (F.args_str_eq_2 _ _) (str_eq_no_dict b u l o es n hc hd) ⟨ho, hq⟩)
    (fun _ hq => call_meets F.slot_dict_eq_refl ⟨o, ho, hc⟩ F.entry_dict_eq (F.args_dict_eq_2 _ _) (dict_eq_no_str b u l o es n hc hd) ⟨ho, hq⟩)
    (fun _ hq => wpAny_of_eq rfl hq) (.inr hu) h
theorem eqAt_str_dict {A : Around} {s : Shared} {l : Addr} {o : Obj} {es : Array DictEntry} {n : Nat} (b : Str) (u : Tok) (ho : s.heap.get? l = some o) (hc : o.cls = .type "dict") (hd : o.data = .dict es n) (hu : A.units < cLine) : SeqAt.EqAt A s (.str b u) (.ref l) false := fun prog w E Q h =>
  wpAny_holding (wpAny_ite_split (fun e => absurd (eq_of_beq e) (fun a => nomatch a)) fun _ => wpAny_bind (rc_str_dict b u ho hc hd hu prog w E (fun a s' => wpAny (model prog w) A (truthOfDropped a) Q E s') (wpAny_truthy_bool h)))
end Dl
namespace Dl
open PySem PySem.Spec PyProof.Rows L2 Rt
theorem sub_int_dict : isSubtype (.type "int") (.type "dict") = pure false := by rw [isSubtype_type]; rfl
theorem sub_bool_dict : isSubtype (.type "bool") (.type "dict") = pure false := by rw [isSubtype_type]; rfl
theorem sub_none_dict : isSubtype (.type "NoneType") (.type "dict") = pure false := by rw [isSubtype_type]; rfl
theorem sub_list_dict : isSubtype (.type "list") (.type "dict") = pure false := by rw [isSubtype_type]; rfl
theorem sub_tuple_dict : isSubtype (.type "tuple") (.type "dict") = pure false := by rw [isSubtype_type]; rfl
theorem sub_dict_int : isSubtype (.type "dict") (.type "int") = pure false := by rw [isSubtype_type]; rfl
theorem sub_dict_bool : isSubtype (.type "dict") (.type "bool") = pure false := by rw [isSubtype_type]; rfl
theorem sub_dict_none : isSubtype (.type "dict") (.type "NoneType") = pure false := by rw [isSubtype_type]; rfl
theorem sub_dict_list : isSubtype (.type "dict") (.type "list") = pure false := by rw [isSubtype_type]; rfl
theorem sub_dict_tuple : isSubtype (.type "dict") (.type "tuple") = pure false := by rw [isSubtype_type]; rfl
theorem dict_eq_no {x : Value} {T : String} (hT : isSubtype (.type T) (.type "dict") = pure false) (l : Addr) : Meets (Builtin.«dict.__eq__» { pos := [.ref l, x] }) fun _ R s => s.TypeIs x T ∧ R (.ok (.ret .notImplemented)) s :=
  Meets.of_wp fun prog w A R s h => by
    obtain ⟨hl, h⟩ := h
    unfold Builtin.«dict.__eq__»
    refine wpAny_bind ?_
    unfold Builtin.Dict.dictSlotArgs
    refine wpAny_bind ?_
    unfold Builtin.Dict.notOrdered
    refine wpAny_ite_false rfl (wpAny_pure (wpAny_bind ?_))
    unfold slotArgs
    refine wpAny_ite_false rfl (wpAny_ite_false rfl (wpAny_pure (wpAny_pure (wpAny_bind ?_))))
    unfold isInstance
    refine wpAny_bind (wpAny_typeOf hl (wpAny_of_eq hT (wpAny_ite_true rfl (wpAny_bind (wpAny_rule (wpAny_pure ⟨_, rfl, h⟩))))))
theorem list_eq_no (l q : Addr) (o : Obj) (hc : o.cls = .type "dict") : Meets (Builtin.«list.__eq__» { pos := [.ref q, .ref l] }) fun _ R s => s.heap.get? l = some o ∧ R (.ok (.ret .notImplemented)) s :=
  Meets.of_wp fun prog w A R s h => by
    obtain ⟨hl, h⟩ := h
    have hl : s.TypeIs (.ref l) "dict" := ⟨o, hl, hc⟩
    unfold Builtin.«list.__eq__»
    refine wpAny_bind ?_
    unfold slotArgs
    refine wpAny_ite_false rfl (wpAny_ite_false rfl (wpAny_pure (wpAny_bind ?_)))
    unfold isInstance
    exact wpAny_bind (wpAny_typeOf hl (wpAny_of_eq sub_dict_list (wpAny_ite_true rfl (wpAny_pure ⟨_, rfl, h⟩))))
theorem tuple_eq_no (l q : Addr) (o : Obj) (hc : o.cls = .type "dict") : Meets (Builtin.«tuple.__eq__» { pos := [.ref q, .ref l] }) fun _ R s => s.heap.get? l = some o ∧ R (.ok (.ret .notImplemented)) s :=
  Meets.of_wp fun prog w A R s h => by
    obtain ⟨hl, h⟩ := h
    have hl : s.TypeIs (.ref l) "dict" := ⟨o, hl, hc⟩
    unfold Builtin.«tuple.__eq__»
    refine wpAny_bind ?_
    unfold slotArgs
    refine wpAny_ite_false rfl (wpAny_ite_false rfl (wpAny_pure (wpAny_bind ?_)))
    unfold isInstance
    exact wpAny_bind (wpAny_typeOf hl (wpAny_of_eq sub_dict_tuple (wpAny_ite_true rfl (wpAny_pure ⟨_, rfl, h⟩))))
theorem int_eq_no (i : Int) (t : Tok) (l : Addr) (o : Obj) (es : Array DictEntry) (n : Nat) (hd : o.data = .dict es n) : Meets (Builtin.«int.__eq__» { pos := [.int i t, .ref l] }) fun _ R s => s.heap.get? l = some o ∧ R (.ok (.ret .notImplemented)) s :=
  Meets.of_wp fun prog w A R s h => by
    obtain ⟨hp, g, d, tk, os⟩ := s
    obtain ⟨hl, h⟩ := h
    obtain ⟨cls, dd, dat, sl⟩ := o
    cases hd
    unfold Builtin.«int.__eq__»
    refine wpAny_bind ?_
    unfold slotArgs
    refine wpAny_ite_false rfl (wpAny_ite_false rfl (wpAny_pure (wpAny_bind ?_)))
    unfold Builtin.Int.intOfSelf
    refine wpAny_bind (wpAny_pure (wpAny_pure (wpAny_bind ?_)))
    unfold asInt?
    exact wpAny_bind (wpAny_load hl (wpAny_pure (wpAny_bind (wpAny_rule (wpAny_pure ⟨_, rfl, h⟩)))))
theorem bool_eq_no (i : Bool) (l : Addr) (o : Obj) (es : Array DictEntry) (n : Nat) (hd : o.data = .dict es n) : Meets (Builtin.«int.__eq__» { pos := [.bool i, .ref l] }) fun _ R s => s.heap.get? l = some o ∧ R (.ok (.ret .notImplemented)) s :=
  Meets.of_wp fun prog w A R s h => by
    obtain ⟨hp, g, d, tk, os⟩ := s
    obtain ⟨hl, h⟩ := h
    obtain ⟨cls, dd, dat, sl⟩ := o
    cases hd
    unfold Builtin.«int.__eq__»
    refine wpAny_bind ?_
    unfold slotArgs
    refine wpAny_ite_false rfl (wpAny_ite_false rfl (wpAny_pure (wpAny_bind ?_)))
    unfold Builtin.Int.intOfSelf
    refine wpAny_bind (wpAny_pure (wpAny_pure (wpAny_bind ?_)))
    unfold asInt?
    exact wpAny_bind (wpAny_load hl (wpAny_pure (wpAny_bind (wpAny_rule (wpAny_pure ⟨_, rfl, h⟩)))))
end Dl
namespace Dl
open PySem PySem.Spec PyProof.Rows L2 Rt
structure IsDic (s : Shared) (l : Addr) (o : Obj) (es : Array DictEntry) (n : Nat) : Prop where
  get : s.heap.get? l = some o
  cls : o.cls = .type "dict"
  dat : o.data = .dict es n
theorem IsDic.ty {s : Shared} {l : Addr} {o : Obj} {es : Array DictEntry} {n : Nat} (h : IsDic s l o es n) : s.TypeIs (.ref l) "dict" := ⟨o, h.get, h.cls⟩
section
variable {A : Around} {s : Shared} {l : Addr} {o : Obj} {es : Array DictEntry} {n : Nat}
theorem tyL {q : Addr} {items : Array Value} (h : s.heap.IsList q items) : s.TypeIs (.ref q) "list" := by
  obtain ⟨o, g, c, _⟩ := h
  exact ⟨o, g, c⟩
theorem tyT {q : Addr} {items : Array Value} (h : s.heap.IsTuple q items) : s.TypeIs (.ref q) "tuple" := by
  obtain ⟨o, g, c, _⟩ := h
  exact ⟨o, g, c⟩
theorem ne_of_ty {q l : Addr} {T U : String} (h : s.TypeIs (.ref q) T) (k : s.TypeIs (.ref l) U) (n : Value.type T ≠ .type U) : q ≠ l := by
  rintro rfl
  obtain ⟨o, g, c⟩ := h
  obtain ⟨o', g', c'⟩ := k
  rw [g] at g'
  cases g'
  exact n (c.symm.trans c')
theorem isSame_dic {M : Model} {E : Value → Shared → Prop} {q : Addr} {T : String} {Q : Bool → Shared → Prop} (h : IsDic s l o es n) (t : s.TypeIs (.ref q) T) (n' : Value.type T ≠ .type "dict") (hq : Q false s) : wpAny M A (isSame (.ref l) (.ref q)) Q E s := by
  have hne := ne_of_ty h.ty t n'.symm
  obtain ⟨o2, g2, c2⟩ := t
  exact wpAny_isSame_ref_other hne h.get g2 (by rw [h.cls]; decide) hq
theorem dic_isSame {M : Model} {E : Value → Shared → Prop} {q : Addr} {T : String} {Q : Bool → Shared → Prop} (h : IsDic s l o es n) (t : s.TypeIs (.ref q) T) (n' : Value.type T ≠ .type "dict") (hq : Q false s) : wpAny M A (isSame (.ref q) (.ref l)) Q E s := by
  have hne := ne_of_ty t h.ty n'
  obtain ⟨o2, g2, c2⟩ := t
  obtain ⟨g1, c1, d1⟩ := h
  obtain ⟨cls, dd, dat, sl⟩ := o
  cases c1
  cases d1
  obtain ⟨cls, dd, dat, sl⟩ := o2
  cases c2
  unfold isSame
  refine wpAny_ite_false (decide_eq_false fun e => hne (eq_of_beq e)) (wpAny_bind (wpAny_load g2 (wpAny_bind (wpAny_load g1 ?_))))
  split
  · rename_i e _ _
    exact absurd (show Value.type "dict" = Value.type "tuple" from e) (by decide)
  · exact wpAny_pure hq
theorem rc_int_dic (i : Int) (t : Tok) (h : IsDic s l o es n) (hu : A.units < cLine) : SeqAt.RcAt A s (.int i t) (.ref l) false := fun prog w E Q hQ =>
  SeqAt.rc_eq_decline_or (typeIs_int s i t) h.ty (by decide) sub_dict_int F.slot_int_eq F.slot_dict_eq_refl
    (fun _ hq => call_meets F.slot_int_eq (typeIs_int s i t) F.entry_int_eq (F.args_int_eq_2 _ _) (int_eq_no i t l o es n h.dat) ⟨h.get, hq⟩)
    (fun _ hq => call_meets F.slot_dict_eq_refl h.ty F.entry_dict_eq (F.args_dict_eq_2 _ _) (dict_eq_no sub_int_dict l) ⟨(typeIs_int s i t), hq⟩)
    (fun _ hq => wpAny_of_eq rfl hq) (.inr hu) hQ
theorem rc_dic_int (i : Int) (t : Tok) (h : IsDic s l o es n) (hu : A.units < cLine) : SeqAt.RcAt A s (.ref l) (.int i t) false := fun prog w E Q hQ =>
  SeqAt.rc_eq_decline_or h.ty (typeIs_int s i t) (by decide) sub_int_dict F.slot_dict_eq F.slot_int_eq_refl
    (fun _ hq => call_meets F.slot_dict_eq h.ty F.entry_dict_eq (F.args_dict_eq_2 _ _) (dict_eq_no sub_int_dict l) ⟨(typeIs_int s i t), hq⟩)
    (fun _ hq => call_meets F.slot_int_eq_refl (typeIs_int s i t) F.entry_int_eq (F.args_int_eq_2 _ _) (int_eq_no i t l o es n h.dat) ⟨h.get, hq⟩)
    (fun _ hq => wpAny_of_eq rfl hq) (.inr hu) hQ
theorem rc_bool_dic (i : Bool) (h : IsDic s l o es n) (hu : A.units < cLine) : SeqAt.RcAt A s (.bool i) (.ref l) false := fun prog w E Q hQ =>
  SeqAt.rc_eq_decline_or rfl h.ty (by decide) sub_dict_bool F.slot_bool_eq F.slot_dict_eq_refl
    (fun _ hq => call_meets F.slot_bool_eq rfl F.entry_int_eq (F.args_int_eq_2 _ _) (bool_eq_no i l o es n h.dat) ⟨h.get, hq⟩)
    (fun _ hq => call_meets F.slot_dict_eq_refl h.ty F.entry_dict_eq (F.args_dict_eq_2 _ _) (dict_eq_no sub_bool_dict l) ⟨rfl, hq⟩)
    (fun _ hq => wpAny_of_eq rfl hq) (.inr hu) hQ
theorem rc_dic_bool (i : Bool) (h : IsDic s l o es n) (hu : A.units < cLine) : SeqAt.RcAt A s (.ref l) (.bool i) false := fun prog w E Q hQ =>
  SeqAt.rc_eq_decline_or h.ty rfl (by decide) sub_bool_dict F.slot_dict_eq F.slot_bool_eq_refl
    (fun _ hq => call_meets F.slot_dict_eq h.ty F.entry_dict_eq (F.args_dict_eq_2 _ _) (dict_eq_no sub_bool_dict l) ⟨rfl, hq⟩)
    (fun _ hq => call_meets F.slot_bool_eq_refl rfl F.entry_int_eq (F.args_int_eq_2 _ _) (bool_eq_no i l o es n h.dat) ⟨h.get, hq⟩)
    (fun _ hq => wpAny_of_eq rfl hq) (.inr hu) hQ
theorem rc_str_dic (i : Str) (t : Tok) (h : IsDic s l o es n) (hu : A.units < cLine) : SeqAt.RcAt A s (.str i t) (.ref l) false := fun prog w E Q hQ =>
  SeqAt.rc_eq_decline_or (typeIs_str s i t) h.ty (by decide) sub_dict_str F.slot_str_eq F.slot_dict_eq_refl
    (fun _ hq => call_meets F.slot_str_eq (typeIs_str s i t) F.entry_str_eq (F.args_str_eq_2 _ _) (str_eq_no_dict i t l o es n h.cls h.dat) ⟨h.get, hq⟩)
    (fun _ hq => call_meets F.slot_dict_eq_refl h.ty F.entry_dict_eq (F.args_dict_eq_2 _ _) (dict_eq_no sub_str_dict l) ⟨(typeIs_str s i t), hq⟩)
    (fun _ hq => wpAny_of_eq rfl hq) (.inr hu) hQ
theorem rc_dic_str (i : Str) (t : Tok) (h : IsDic s l o es n) (hu : A.units < cLine) : SeqAt.RcAt A s (.ref l) (.str i t) false := fun prog w E Q hQ =>
  SeqAt.rc_eq_decline_or h.ty (typeIs_str s i t) (by decide) sub_str_dict F.slot_dict_eq F.slot_str_eq_refl
    (fun _ hq => call_meets F.slot_dict_eq h.ty F.entry_dict_eq (F.args_dict_eq_2 _ _) (dict_eq_no sub_str_dict l) ⟨(typeIs_str s i t), hq⟩)
    (fun _ hq => call_meets F.slot_str_eq_refl (typeIs_str s i t) F.entry_str_eq (F.args_str_eq_2 _ _) (str_eq_no_dict i t l o es n h.cls h.dat) ⟨h.get, hq⟩)
    (fun _ hq => wpAny_of_eq rfl hq) (.inr hu) hQ
theorem rc_none_dic  (h : IsDic s l o es n) (hu : A.units < cLine) : SeqAt.RcAt A s (.none) (.ref l) false := fun prog w E Q hQ =>
  SeqAt.rc_eq_decline_or rfl h.ty (by decide) sub_dict_none F.slot_NoneType_eq F.slot_dict_eq_refl
    (fun _ hq => call_gives F.slot_NoneType_eq rfl F.entry_NoneType_eq (F.args_NoneType_eq_2 _ _) (SeqAt.NoneType___eq___none_ref_0 l) hq)
    (fun _ hq => call_meets F.slot_dict_eq_refl h.ty F.entry_dict_eq (F.args_dict_eq_2 _ _) (dict_eq_no sub_none_dict l) ⟨rfl, hq⟩)
    (fun _ hq => wpAny_of_eq rfl hq) (.inr hu) hQ
theorem rc_dic_none  (h : IsDic s l o es n) (hu : A.units < cLine) : SeqAt.RcAt A s (.ref l) (.none) false := fun prog w E Q hQ =>
  SeqAt.rc_eq_decline_or h.ty rfl (by decide) sub_none_dict F.slot_dict_eq F.slot_NoneType_eq_refl
    (fun _ hq => call_meets F.slot_dict_eq h.ty F.entry_dict_eq (F.args_dict_eq_2 _ _) (dict_eq_no sub_none_dict l) ⟨rfl, hq⟩)
    (fun _ hq => call_gives F.slot_NoneType_eq_refl rfl F.entry_NoneType_eq (F.args_NoneType_eq_2 _ _) (SeqAt.NoneType___eq___none_ref_0 l) hq)
    (fun _ hq => wpAny_of_eq rfl hq) (.inr hu) hQ
theorem rc_list_dic {q : Addr} {items : Array Value} (hq0 : s.heap.IsList q items) (h : IsDic s l o es n) (hu : A.units < cLine) : SeqAt.RcAt A s (.ref q) (.ref l) false := fun prog w E Q hQ =>
  SeqAt.rc_eq_decline_or (tyL hq0) h.ty (by decide) sub_dict_list F.slot_list_eq F.slot_dict_eq_refl
    (fun _ hq => call_meets F.slot_list_eq (tyL hq0) F.entry_list_eq (F.args_list_eq_2 _ _) (list_eq_no l q o h.cls) ⟨h.get, hq⟩)
    (fun _ hq => call_meets F.slot_dict_eq_refl h.ty F.entry_dict_eq (F.args_dict_eq_2 _ _) (dict_eq_no sub_list_dict l) ⟨(tyL hq0), hq⟩)
    (fun _ hq => dic_isSame h (tyL hq0) (by decide) hq) (.inr hu) hQ
theorem rc_dic_list {q : Addr} {items : Array Value} (hq0 : s.heap.IsList q items) (h : IsDic s l o es n) (hu : A.units < cLine) : SeqAt.RcAt A s (.ref l) (.ref q) false := fun prog w E Q hQ =>
  SeqAt.rc_eq_decline_or h.ty (tyL hq0) (by decide) sub_list_dict F.slot_dict_eq F.slot_list_eq_refl
    (fun _ hq => call_meets F.slot_dict_eq h.ty F.entry_dict_eq (F.args_dict_eq_2 _ _) (dict_eq_no sub_list_dict l) ⟨(tyL hq0), hq⟩)
    (fun _ hq => call_meets F.slot_list_eq_refl (tyL hq0) F.entry_list_eq (F.args_list_eq_2 _ _) (list_eq_no l q o h.cls) ⟨h.get, hq⟩)
    (fun _ hq => isSame_dic h (tyL hq0) (by decide) hq) (.inr hu) hQ
theorem rc_tuple_dic {q : Addr} {items : Array Value} (hq0 : s.heap.IsTuple q items) (h : IsDic s l o es n) (hu : A.units < cLine) : SeqAt.RcAt A s (.ref q) (.ref l) false := fun prog w E Q hQ =>
  SeqAt.rc_eq_decline_or (tyT hq0) h.ty (by decide) sub_dict_tuple F.slot_tuple_eq F.slot_dict_eq_refl
    (fun _ hq => call_meets F.slot_tuple_eq (tyT hq0) F.entry_tuple_eq (F.args_tuple_eq_2 _ _) (tuple_eq_no l q o h.cls) ⟨h.get, hq⟩)
    (fun _ hq => call_meets F.slot_dict_eq_refl h.ty F.entry_dict_eq (F.args_dict_eq_2 _ _) (dict_eq_no sub_tuple_dict l) ⟨(tyT hq0), hq⟩)
    (fun _ hq => dic_isSame h (tyT hq0) (by decide) hq) (.inr hu) hQ
theorem rc_dic_tuple {q : Addr} {items : Array Value} (hq0 : s.heap.IsTuple q items) (h : IsDic s l o es n) (hu : A.units < cLine) : SeqAt.RcAt A s (.ref l) (.ref q) false := fun prog w E Q hQ =>
  SeqAt.rc_eq_decline_or h.ty (tyT hq0) (by decide) sub_tuple_dict F.slot_dict_eq F.slot_tuple_eq_refl
    (fun _ hq => call_meets F.slot_dict_eq h.ty F.entry_dict_eq (F.args_dict_eq_2 _ _) (dict_eq_no sub_tuple_dict l) ⟨(tyT hq0), hq⟩)
    (fun _ hq => call_meets F.slot_tuple_eq_refl (tyT hq0) F.entry_tuple_eq (F.args_tuple_eq_2 _ _) (tuple_eq_no l q o h.cls) ⟨h.get, hq⟩)
    (fun _ hq => isSame_dic h (tyT hq0) (by decide) hq) (.inr hu) hQ
end
end Dl
namespace Dl
open PySem PySem.Spec PyProof.Rows L2 Rt
theorem eqAt_str_any {A : Around} {s : Shared} {x : Value} {d : D} {as : List Addr} (b : Str) (u : Tok) (r : Reads s.heap x d as) (hu : A.units < cLine) : SeqAt.EqAt A s (.str b u) x (PyData.eqv (.str b) d) := by
  cases r with
  | none => exact SeqAt.EqAt.str_none b u
  | bool c => exact SeqAt.EqAt.str_bool b u c
  | int c t => exact SeqAt.EqAt.str_int b u c t
  | str c t => exact SeqAt.EqAt.str_str b u c t
  | list g c e _ => exact SeqAt.EqAt.str_list b u ⟨_, g, c, _, e⟩ hu
  | tuple g c e _ => exact SeqAt.EqAt.str_tuple b u ⟨_, g, c, _, e⟩ hu
  | dict g c e _ _ => exact eqAt_str_dict b u g c e hu
theorem key_reads {h : Heap} {k : Key} {u : Value} (e : keyIs k u = true) : Reads h u (kD k) [] := by
  cases k with
  | inl i =>
    have e : Value.isInt i u = true := e
    cases u <;> try (cases e; done)
    have e2 := eq_of_beq e
    rw [← e2]
    exact .int _ _
  | inr x =>
    have e : Value.isStrOf x u = true := e
    cases u <;> try (cases e; done)
    have e2 := eq_of_beq e
    rw [← e2]
    exact .str _ _
mutual
theorem Rp.reads {X : Cx} {pn : List (Addr × Obj)} {σ : L2.St} {M : Addr → Prop} {H : Hp} {s : Shared} (I : L2.Inv X pn σ H s) : ∀ {v : V} {d : D} {u : Value}, Rp M H v d → RelV v u → ∃ as, Reads s.heap u d as
  | _, _, _, .non, r => by cases r; exact ⟨_, .none⟩
  | _, _, _, .bl b, r => by cases r; exact ⟨_, .bool b⟩
  | _, _, _, .int i, r => by obtain ⟨t, rfl⟩ := r; exact ⟨_, .int i t⟩
  | _, _, _, .str x _, r => by obtain ⟨t, rfl⟩ := r; exact ⟨_, .str x t⟩
  | _, _, _, .tup t n l h, r => by
    cases r
    obtain ⟨its, vi, ⟨o, g, c, k, e⟩, _⟩ := I.tuple t.sq
    obtain ⟨as, ra⟩ := RpAll.reads I h vi
    exact ⟨_, .tuple g c e (by simpa using ra)⟩
  | _, _, _, .lst t n l h, r => by
    cases r
    obtain ⟨_, its, k, vi, g⟩ := I.hok _ _ t
    obtain ⟨as, ra⟩ := RpAll.reads I h vi
    exact ⟨_, .list g rfl rfl (by simpa using ra)⟩
  | _, _, _, .dic e n h, r => by
    cases r
    obtain ⟨_, _, vs, kv, o, es, ep, g, x, dd, _, pr, _⟩ := I.hok _ _ e
    obtain ⟨bs, ra, rb⟩ := RpKV.reads I h kv pr
    exact ⟨_, .dict g x.1 dd ra rb⟩
theorem RpKV.reads {X : Cx} {pn : List (Addr × Obj)} {σ : L2.St} {M : Addr → Prop} {H : Hp} {s : Shared} (I : L2.Inv X pn σ H s) : ∀ {kvs : List (Key × V)} {es : List (D × D)} {us : List (Key × Value)} {el : List DictEntry}, RpKV M H kvs es → KV kvs us → Pairs (mixKind X.prog X.w) el us → ∃ bs, ReadsAll s.heap (el.map (·.key)) (es.map (·.1)) [] ∧ ReadsAll s.heap (el.map (·.val)) (es.map (·.2)) bs
  | _, _, _, _, .nil, kv, pr => by
    cases kv
    cases pr
    exact ⟨_, .nil, .nil⟩
  | _, _, _, _, .cons h t, kv, pr => by
    cases kv with
    | cons a kv =>
      cases pr with
      | cons k1 k2 pr =>
        obtain ⟨as, ra⟩ := Rp.reads I h a.2
        obtain ⟨bs, r1, r2⟩ := RpKV.reads I t kv pr
        refine ⟨as ++ bs, .cons (as := []) (key_reads (by have e := a.1; dsimp only at e; rw [e]; exact k1)) r1, .cons ?_ r2⟩
        dsimp only
        rw [k2]
        exact ra
theorem RpAll.reads {X : Cx} {pn : List (Addr × Obj)} {σ : L2.St} {M : Addr → Prop} {H : Hp} {s : Shared} (I : L2.Inv X pn σ H s) : ∀ {vs : List V} {ds : List D} {us : List Value}, RpAll M H vs ds → Vals vs us → ∃ as, ReadsAll s.heap us ds as
  | _, _, _, .nil, r => by cases r; exact ⟨_, .nil⟩
  | _, _, _, .cons h t, r => by
    cases r with
    | cons r1 r2 =>
      obtain ⟨as, ra⟩ := Rp.reads I h r1
      obtain ⟨bs, rb⟩ := RpAll.reads I t r2
      exact ⟨_, .cons ra rb⟩
end
end Dl
namespace Dl
open PySem PySem.Spec PyProof.Rows L2 Rt
def isStrD : D → Bool
  | .str _ => true
  | _ => false
def eqS (d : D) : Value → Bool
  | .str b _ => PyData.eqv (.str b) d
  | _ => false
theorem any_strs {M : Addr → Prop} {H : Hp} {d : D} : ∀ {vs : List V} {ds : List D} {us : List Value}, RpAll M H vs ds → Vals vs us → ds.all isStrD = true → us.any (eqS d) = ds.any fun z => PyData.eqv z d
  | _, _, _, .nil, r, _ => by cases r; rfl
  | _, _, _, .cons h t, r, e => by
    cases r with
    | cons r1 r2 =>
      have e := Bool.and_eq_true_iff.mp e
      cases h <;> try (exact absurd e.1 Bool.false_ne_true)
      obtain ⟨tk, rfl⟩ := r1
      exact congrArg _ (any_strs t r2 e.2)
theorem mem_strs {M : Addr → Prop} {H : Hp} : ∀ {vs : List V} {ds : List D} {us : List Value}, RpAll M H vs ds → Vals vs us → ds.all isStrD = true → ∀ y ∈ us, ∃ b t, y = .str b t
  | _, _, _, .nil, r, _ => by cases r; exact fun _ h => nomatch h
  | _, _, _, .cons h t, r, e => by
    cases r with
    | cons r1 r2 =>
      have e := Bool.and_eq_true_iff.mp e
      cases h <;> try (exact absurd e.1 Bool.false_ne_true)
      obtain ⟨tk, rfl⟩ := r1
      intro y hy
      rcases List.mem_cons.mp hy with rfl | hy
      · exact ⟨_, _, rfl⟩
      · exact mem_strs t r2 e.2 y hy
variable {X : Cx}
def inS : D → D → Option D
  | a, .tuple ds => if ds.all isStrD = true then some (.bool (ds.any fun z => PyData.eqv z a)) else none
  | _, _ => none
def ninS : D → D → Option D
  | a, .tuple ds => if ds.all isStrD = true then some (.bool (!ds.any fun z => PyData.eqv z a)) else none
  | _, _ => none
theorem o_inS (hu : X.A.units + 65 < cLine) : OpR X (compareOp .In) (rD inS) := by
  intro pn s σ H x y v u Q I rx ry h
  obtain ⟨M, a, b, d, dm, ra, rb, e, q⟩ := h
  cases rb <;> (try (cases ra <;> cases e; done))
  rename_i xs ds t n l r
  obtain ⟨l2, rfl⟩ := iteS (show (if ds.all isStrD = true then some (PyData.bool (ds.any fun z => PyData.eqv z a)) else none) = some d by cases a <;> exact e)
  cases ry
  obtain ⟨as, r1⟩ := Rp.reads I ra rx
  obtain ⟨its, vi, it, _⟩ := I.tuple t.sq
  refine SeqAt.in_tupleAt (eqS a) it (fun y hy => ?_) ⟨.bl _, H, I, ?_, q _ _ (Same.refl _) (.bl _)⟩
  · obtain ⟨b, tk, rfl⟩ := mem_strs r vi l2 y (by simpa using hy)
    exact eqAt_str_any b tk r1 (show X.A.units + 1 < cLine by omega)
  · show Value.bool _ = Value.bool _
    rw [← any_strs r vi l2]
    simp
theorem o_ninS (hu : X.A.units + 65 < cLine) : OpR X (compareOp .NotIn) (rD ninS) := by
  intro pn s σ H x y v u Q I rx ry h
  obtain ⟨M, a, b, d, dm, ra, rb, e, q⟩ := h
  cases rb <;> (try (cases ra <;> cases e; done))
  rename_i xs ds t n l r
  obtain ⟨l2, rfl⟩ := iteS (show (if ds.all isStrD = true then some (PyData.bool (!ds.any fun z => PyData.eqv z a)) else none) = some d by cases a <;> exact e)
  cases ry
  obtain ⟨as, r1⟩ := Rp.reads I ra rx
  obtain ⟨its, vi, it, _⟩ := I.tuple t.sq
  refine SeqAt.notIn_tupleAt (eqS a) it (fun y hy => ?_) ⟨.bl _, H, I, ?_, q _ _ (Same.refl _) (.bl _)⟩
  · obtain ⟨b, tk, rfl⟩ := mem_strs r vi l2 y (by simpa using hy)
    exact eqAt_str_any b tk r1 (show X.A.units + 1 < cLine by omega)
  · show Value.bool _ = Value.bool _
    rw [← any_strs r vi l2]
    simp
end Dl
namespace Dl
open PySem PySem.Spec PyProof.Rows L2 Rt
variable {X : Cx}
def neT0 : D → D → Option D
  | .tuple ds, .tuple [] => some (.bool (!ds.isEmpty))
  | _, _ => none
theorem o_neT0 (hu : X.A.units + 64 < cLine) : OpR X (compareOp .NotEq) (rD neT0) := by
  intro pn s σ H x y v u Q I rx ry h
  obtain ⟨M, a, b, d, dm, ra, rb, e, q⟩ := h
  cases ra <;> (try (cases rb <;> cases e; done))
  rename_i xs ds t n l r
  cases rb <;> (try (cases e; done))
  rename_i xs2 ds2 t2 n2 l2 r2
  cases r2 <;> (try (cases e; done))
  cases e
  cases rx
  cases ry
  obtain ⟨its, vi, it, _⟩ := I.tuple t.sq
  obtain ⟨its2, vi2, it2, _⟩ := I.tuple t2.sq
  cases vi2
  refine SeqAt.RcNeAt.tuples (e := fun _ => true) it it2 (by omega) (fun j _ h2 => absurd h2 (by simp)) _ _ _ _ ⟨.bl _, H, I, ?_, q _ _ (Same.refl _) (.bl _)⟩
  show Value.bool _ = Value.bool _
  congr 1
  cases r <;> cases vi <;> simp
end Dl
namespace Rt
open PySem PySem.Spec PyProof.Rows L2
section
variable {prog : Program} {w : World} {A : Around} {E : Value → Shared → Prop} {s : Shared}
theorem sa_rev {sl : Addr} {vl vu vk : Value} {n : Nat} {Q : Int × Int × Nat → Shared → Prop} (hs : s.heap.IsSliceOf sl vl vu vk) (pl : IsPart vl none) (pu : IsPart vu none) (pk : IsPart vk (some (-1)))
    (h : Q ((n : Int) - 1, -1, n) s) : wpAny (model prog w) A (Builtin.Slice.sliceApplied (.ref sl) (pure (n : Int))) Q E s := by
  obtain ⟨os, hos, hcs, hds⟩ := id hs
  unfold Builtin.Slice.sliceApplied Builtin.Slice.sliceFields
  refine wpAny_bind (wpAny_bind (wpAny_field hos hds (x := vl) rfl (wpAny_bind (wpAny_field hos hds (x := vu) rfl (wpAny_bind (wpAny_field hos hds (x := vk) rfl (wpAny_pure ?_)))))))
  refine wpAny_bind (HT.slicePart_ pk ?_)
  show wpAny _ _ (if ((-1 : Int) == 0) = true then _ else _) _ _ s
  rw [if_neg (by decide)]
  refine wpAny_bind (HT.slicePart_ pl (wpAny_bind (HT.slicePart_ pu (wpAny_bind (wpAny_pure ?_)))))
  have e1 : Builtin.Slice.sliceAdjust none none (-1) (n : Int) = ((n : Int) - 1, -1) := by
    unfold Builtin.Slice.sliceAdjust
    simp
  have e2 : Builtin.Slice.slicePlaces ((n : Int) - 1) (-1) (-1) = n := by
    unfold Builtin.Slice.slicePlaces
    rw [if_neg (by decide)]
    by_cases hn : (n : Int) - 1 > -1
    · rw [if_pos hn, show (-(-1) : Int) = 1 by decide, Int.ediv_one]
      omega
    · rw [if_neg hn]
      omega
  show wpAny _ _ (match Builtin.Slice.sliceAdjust none none (-1) (n : Int) with | (lo, hi) => pure (lo, (-1 : Int), Builtin.Slice.slicePlaces lo hi (-1))) _ _ s
  rw [e1]
  show wpAny _ _ (pure ((n : Int) - 1, (-1 : Int), Builtin.Slice.slicePlaces ((n : Int) - 1) (-1) (-1))) _ _ s
  rw [e2]
  exact wpAny_pure h
theorem fm_congr {α β : Type} {f g : α → Option β} : ∀ {l : List α}, (∀ x ∈ l, f x = g x) → l.filterMap f = l.filterMap g
  | [], _ => rfl
  | a :: r, h => by
    rw [List.filterMap_cons, List.filterMap_cons, h a List.mem_cons_self, fm_congr fun x hx => h x (List.mem_cons_of_mem _ hx)]
theorem pick_rev (xs : Array Value) : ((List.range xs.size).filterMap fun (m : Nat) => xs[(((xs.size : Int) - 1) + (m : Int) * (-1)).toNat]?).toArray = xs.toList.reverse.toArray := by
  congr 1
  have e : (List.range xs.size).filterMap (fun (m : Nat) => xs[(((xs.size : Int) - 1) + (m : Int) * (-1)).toNat]?) = (List.range xs.size).filterMap (fun (m : Nat) => xs.toList.reverse[m]?) := by
    refine fm_congr fun m hm => ?_
    have hm := List.mem_range.mp hm
    have e2 : (((xs.size : Int) - 1) + (m : Int) * (-1)).toNat = xs.size - 1 - m := by omega
    rw [e2, List.getElem?_reverse (by rw [Array.length_toList]; exact hm), Array.length_toList, Array.getElem?_toList]
  rw [e]
  have g : ∀ l : List Value, (List.range l.length).filterMap (fun m => l[m]?) = l := by
    intro l
    induction l with
    | nil => rfl
    | cons a r ih =>
      rw [List.length_cons, List.range_succ_eq_map, List.filterMap_cons]
      simp only [List.getElem?_cons_zero, List.filterMap_map]
      congr 1
  have := g xs.toList.reverse
  rwa [List.length_reverse, Array.length_toList] at this
theorem item_rev {t sl : Addr} {items : Array Value} {vl vu vk : Value} {Q : Value → Shared → Prop} (ht : IsTup s.heap t items) (hs : s.heap.IsSliceOf sl vl vu vk) (pl : IsPart vl none) (pu : IsPart vu none) (pk : IsPart vk (some (-1)))
    (h : Q (.ref s.heap.objs.size) { s with heap := s.heap.push { cls := .type "tuple", data := .seq items.toList.reverse.toArray } })
    (hsz : items.size ≤ sizeLine) : wpAny (model prog w) A (getItem (.ref t) (.ref sl)) Q E s := by
  have htk : sizeOk (.seq items.toList.reverse.toArray) := by
    show items.toList.reverse.toArray.size ≤ sizeLine
    rw [List.size_toArray, List.length_reverse, Array.length_toList]
    exact hsz
  obtain ⟨os, hos, hcs, hds⟩ := id hs
  have hT2 : s.TypeIs (.ref sl) "slice" := ⟨os, hos, hcs⟩
  unfold getItem
  try with_reducible refine wpAny_holding ?_
  first | refine wpAny_bind (wpAny_pure ?_) | skip
  refine wpAny_bind (wpAny_sequenceKey ht.typeIs (by decide) ?_)
  refine wpAny_bind (wpAny_callSpecial?_slot (name := Str.ofString "__getitem__") ht.typeIs PyProof.Rows.slot_tuple_getitem (wpAny_call_entry PyProof.Rows.slot_tuple_getitem ht.typeIs entry_tuple_getitem ?_ (args_tuple_getitem _ _)))
  show wpAny _ _ (Builtin.Tuple.tupleItemsOf (.ref t) >>= _) _ _ s
  refine wpAny_bind (tupleItemsOf_ ht (wpAny_bind (wpAny_typeOf hT2 ?_)))
  rw [if_pos (by decide)]
  refine wpAny_bind (sa_rev (n := items.size) hs pl pu pk ?_)
  have hno : ¬ ((((items.size : Int) - 1) == 0 && (-1 : Int) == 1 && items.size == items.size) = true) := by
    intro z
    rw [Bool.and_eq_true, Bool.and_eq_true] at z
    exact absurd z.1.2 (by decide)
  show wpAny _ _ (if (((items.size : Int) - 1) == 0 && (-1 : Int) == 1 && items.size == items.size) = true then _ else _) _ _ s
  rw [if_neg hno, pick_rev]
  first
    | exact wpAny_bind (m := Builtin.Tuple.tupleExact _) (wpAny_newObj_type (wpAny_pure ⟨_, rfl, wpAny_pure h⟩) htk)
    | exact wpAny_bind (m := Builtin.Tuple.tupleExact _) (wpAny_newObj_type (wpAny_bind (wpAny_pure (wpAny_pure ⟨_, rfl, wpAny_pure h⟩))) htk)
    | exact wpAny_bind (wpAny_bind (m := Builtin.Tuple.tupleExact _) (wpAny_newObj_type (wpAny_pure (wpAny_pure ⟨_, rfl, wpAny_pure h⟩)) htk))
    | exact wpAny_bind (wpAny_bind (m := Builtin.Tuple.tupleExact _) (wpAny_newObj_type (wpAny_pure ⟨_, rfl, wpAny_pure h⟩) htk))
end
section
variable {X : Cx}
def tRevT (K : PySem.W.Frag) (te : TE) : TE := fun σ H Q => te σ H fun x H1 => ∃ a xs, x = .ref a ∧ SqT K H1 a xs ∧ ∀ p, H1 p = none → Q (.ref p) (upd H1 p (.tup xs.reverse))
theorem pe_revT {e : Expr} {te : TE} {k : Nat} {p1 p2 p3 pos : Pos} (he : PE X e te) : PE X (.Subscript e (.Slice none none (some (.UnaryOp .USub (.Constant (.int 1) k p1) p2)) p3) pos) (tRevT X.K te) := by
  refine ⟨fun pn s σ H Q I h => ?_⟩
  refine Subscript_ (thn (he.run pn s σ H _ I h) fun v s1 ⟨x, H1, I1, r1, q1⟩ => ?_)
  obtain ⟨a, xs, ex, hx, q⟩ := q1
  subst ex
  cases r1
  have hst : PO X (some (.UnaryOp .USub (.Constant (.int 1) k p1) p2)) (tPart (tUn (rU fun i => .int (-i)) (tC (.int 1)))) := po_some (pe_un un_neg pe_int)
  refine wpAny_Slice (thn (po_none.run pn s1 σ H1 (fun o H2 => o = none ∧ H2 = H1) I1 ⟨rfl, rfl⟩) fun vl s2 ⟨l, H2, I2, pl, el, e2⟩ => ?_)
  subst el e2
  refine thn (po_none.run pn s2 σ H2 (fun o H3 => o = none ∧ H3 = H2) I2 ⟨rfl, rfl⟩) fun vu s3 ⟨u, H3, I3, pu, eu, e3⟩ => ?_
  subst eu e3
  refine thn (hst.run pn s3 σ H3 (fun o H4 => o = some (-1) ∧ H4 = H3) I3 ⟨1, rfl, -1, rfl, rfl, rfl⟩) fun vs s4 ⟨o, H4, I4, ps, eo, e4⟩ => ?_
  subst eo e4
  have I5 : Inv X pn σ H4 { s4 with heap := s4.heap.push { cls := .type "slice", data := .fields #[vl, vu, vs] } } := I4.kept (t' := s4.toks) fun b ob q => Heap.get?_push_of_some _ q
  obtain ⟨its, r, ht, hz⟩ := I5.tuple hx
  have hlen := r.length
  show wpAny (model X.prog X.w) X.A (subscriptTail e (.Slice none none (some (.UnaryOp .USub (.Constant (.int 1) k p1) p2)) p3) (.ref a) (.ref s4.heap.objs.size)) (EP X pn σ Q) X.xe { s4 with heap := s4.heap.push { cls := .type "slice", data := .fields #[vl, vu, vs] } }
  refine tail_any (ops := [.ref a, .ref s4.heap.objs.size]) ht.typeIs (PyProof.Rows.slot_tuple_getitem.lookup) ?_ (by with_unfolding_all rfl)
  refine item_rev ht (Heap.IsSliceOf.new _ vl vu vs) pl pu ps ?_ (by rw [List.size_toArray]; omega)
  refine ⟨.ref _, _, I5.laid (t' := s4.toks) (o := .tup xs.reverse) (fun b ob q => Heap.get?_push_of_some _ q) (Nat.le_refl _) ?_, rfl, q _ (I5.hok.fresh (Nat.le_refl _))⟩
  exact ⟨by rw [List.length_reverse]; exact hz, _, r.reverse, IsTup.new _ _⟩
end
end Rt
namespace Dl
open PySem PySem.Spec PyProof.Rows L2 Rt
/-! ### data of any sort: texts of true signs, tuples that aren't too long -/
mutual
def gq : D → Bool
  | .str z => PyData.strOk z
  | .tuple ds => decide (ds.length ≤ 1000) && gqAll ds
  | _ => true
def gqAll : List D → Bool
  | [] => true
  | d :: ds => gq d && gqAll ds
end
theorem gqAll.mem : ∀ {ds : List D}, gqAll ds = true → ∀ d ∈ ds, gq d = true
  | [], _ => fun d m => nomatch m
  | x :: xs, h => by
    have h := Bool.and_eq_true_iff.mp (show (gq x && gqAll xs) = true from h)
    intro d m
    rcases List.mem_cons.mp m with e | e
    · rw [e]; exact h.1
    · exact gqAll.mem h.2 d e
theorem gqAll.of : ∀ {ds : List D}, (∀ d ∈ ds, gq d = true) → gqAll ds = true
  | [], _ => rfl
  | x :: xs, h => Bool.and_eq_true_iff.mpr ⟨h x (by simp), gqAll.of fun d m => h d (by simp [m])⟩
theorem gq.two {ds : List D} (h : gq (.tuple ds) = true) : ds.length ≤ 1000 ∧ ∀ d ∈ ds, gq d = true := by
  have h := Bool.and_eq_true_iff.mp (show (decide (ds.length ≤ 1000) && gqAll ds) = true from h)
  exact ⟨of_decide_eq_true h.1, gqAll.mem h.2⟩
theorem gq.tup {ds : List D} (h : gq (.tuple ds) = true) : ∀ d ∈ ds, gq d = true := (gq.two h).2
def okK : D → Bool
  | .tuple ks => ks.all isStrD
  | _ => false
theorem ninS_tup {a : D} {ks : List D} (_h : gq a = true) (k : okK (.tuple ks) = true) : ninS a (.tuple ks) = some (.bool (!ks.any fun z => PyData.eqv z a)) := by
  cases a <;> exact if_pos k
theorem inS_tup {a : D} {ks : List D} (_h : gq a = true) (k : okK (.tuple ks) = true) : inS a (.tuple ks) = some (.bool (ks.any fun z => PyData.eqv z a)) := by
  cases a <;> exact if_pos k
section
variable {X : Cx}
/-- a list beside [] -/
def neL0 : D → D → Option D
  | .list ds, .list [] => some (.bool (!ds.isEmpty))
  | _, _ => none
theorem o_neL0 (hu : X.A.units + 64 < cLine) : OpR X (compareOp .NotEq) (rD neL0) := by
  intro pn s σ H x y v u Q I rx ry h
  obtain ⟨M, a, b, d, dm, ra, rb, e, q⟩ := h
  cases ra <;> (try (cases rb <;> cases e; done))
  rename_i xs ds t n l r
  cases rb <;> (try (cases e; done))
  rename_i xs2 ds2 t2 n2 l2 r2
  cases r2 <;> (try (cases e; done))
  cases e
  cases rx
  cases ry
  obtain ⟨_, its, k, vi, g⟩ := I.hok _ _ t
  obtain ⟨_, its2, k2, vi2, g2⟩ := I.hok _ _ t2
  cases vi2
  cases r with
  | nil =>
    cases vi
    refine SeqAt.RcNeAt.lists (e := fun _ => true) ⟨_, g, rfl, _, rfl⟩ ⟨_, g2, rfl, _, rfl⟩ rfl (by omega) (fun j h1 _ => absurd h1 (by simp)) _ _ _ _ ⟨.bl _, H, I, ?_, q _ _ (Same.refl _) (.bl _)⟩
    show Value.bool _ = Value.bool _
    simp
  | cons h1 h2 =>
    cases vi
    refine SeqAt.RcNeAt.lists_lengths ⟨_, g, rfl, _, rfl⟩ ⟨_, g2, rfl, _, rfl⟩ (by simp) (by omega) _ _ _ _ ⟨.bl _, H, I, ?_, q _ _ (Same.refl _) (.bl _)⟩
    rfl
/-- truths among numbers -/
def addX : D → D → Option D
  | .bool a, .int j => some (.int ((if a = true then (1 : Int) else 0) + j))
  | a, b => addD a b
def subX : D → D → Option D
  | .bool a, .int j => some (.int ((if a = true then (1 : Int) else 0) - j))
  | a, b => subD a b
theorem o_addX : OpR X (binaryOp .Add) (rD addX) := by
  intro pn s σ H x y v u Q I rx ry h
  obtain ⟨M, a, b, d, dm, ra, rb, e, q⟩ := h
  by_cases hb : ∃ k j, a = .bool k ∧ b = .int j
  · obtain ⟨k, j, rfl, rfl⟩ := hb
    cases e
    cases ra
    cases rb
    cases rx
    obtain ⟨t, rfl⟩ := ry
    exact PySem.IntBool.add_bool_int ⟨.int _, H, I.tok _, ⟨_, rfl⟩, q _ _ (Same.refl _) (.int _)⟩
  · refine o_add pn s σ H _ _ v u Q I rx ry ⟨M, a, b, d, dm, ra, rb, ?_, q⟩
    unfold addX at e
    split at e
    · exact (hb ⟨_, _, rfl, rfl⟩).elim
    · exact e
theorem o_subX : OpR X (binaryOp .Sub) (rD subX) := by
  intro pn s σ H x y v u Q I rx ry h
  obtain ⟨M, a, b, d, dm, ra, rb, e, q⟩ := h
  by_cases hb : ∃ k j, a = .bool k ∧ b = .int j
  · obtain ⟨k, j, rfl, rfl⟩ := hb
    cases e
    cases ra
    cases rb
    cases rx
    obtain ⟨t, rfl⟩ := ry
    exact PySem.IntBool.sub_bool_int ⟨.int _, H, I.tok _, ⟨_, rfl⟩, q _ _ (Same.refl _) (.int _)⟩
  · refine o_sub pn s σ H _ _ v u Q I rx ry ⟨M, a, b, d, dm, ra, rb, ?_, q⟩
    unfold subX at e
    split at e
    · exact (hb ⟨_, _, rfl, rfl⟩).elim
    · exact e
/-- slices of texts, too -/
def slX : D → Option Int → Option Int → Option D
  | .str z, lo, hi => some (.str (cutS z lo hi))
  | d, lo, hi => slD d lo hi
def rSlX' : V → Option Int → Option Int → Hp → VK → Prop := fun x lo hi H Q => ∃ M a d, Dom M H ∧ Rp M H x a ∧ slX a lo hi = some d ∧ ∀ v H', Same H H' → Rp M H' v d → Q v H'
theorem s_slX : SlR X rSlX' := by
  intro pn s σ H x v vl vu lo hi sl Q I rx hs pl pu h
  obtain ⟨M, a, d, dm, ra, e, q⟩ := h
  by_cases hz : ∃ z, a = .str z
  · obtain ⟨z, rfl⟩ := hz
    cases e
    cases ra
    rename_i hz
    exact sl_str pn s σ H _ v vl vu lo hi sl Q I rx hs pl pu ⟨z, rfl, hz, q _ _ (Same.refl _) (.str _ (Nat.le_trans (cutS_length _ _ _) hz))⟩
  · refine s_sl pn s σ H _ v vl vu lo hi sl Q I rx hs pl pu ⟨M, a, d, dm, ra, ?_, q⟩
    cases a <;> first | exact e | exact (hz ⟨_, rfl⟩).elim
def eSlX (f : EF) (lo hi : Rho → Option (Option Int)) : EF := fun ρ => (f ρ).bind fun d => (lo ρ).bind fun l => (hi ρ).bind fun h => slX d l h
theorem dE_slX {e : Expr} {lo hi : Option Expr} {pos p2 : Pos} {f : EF} {g h : Rho → Option (Option Int)} {μ : Bool} (he : PE X e (tD μ f)) (hl : PO X lo (tPo g)) (hh : PO X hi (tPo h)) : PE X (.Subscript e (.Slice lo hi none p2) pos) (tD μ (eSlX f g h)) := (pe_slice s_slX he hl hh).wk fun σ H Q q => by
  obtain ⟨M0, H0, ρ, d, R, e, q⟩ := q
  obtain ⟨d1, e1, e⟩ := some_bind e
  obtain ⟨l, el, e⟩ := some_bind e
  obtain ⟨u, eu, e⟩ := some_bind e
  exact ⟨M0, H0, ρ, d1, R, e1, fun v H1 s1 r1 => ⟨M0, H0, ρ, l, R.mono s1, el, fun H2 s2 => ⟨M0, H0, ρ, u, R.mono (s1.trans s2), eu, fun H3 s3 => ⟨_, d1, d, (R.mono ((s1.trans s2).trans s3)).domu μ, r1.mono (.of (s2.trans s3)), e, fun v H4 s4 r4 => q v H4 (((s1.trans s2).trans s3).trans s4) r4⟩⟩⟩⟩
/-- t[::-1] -/
def tRevF (K : PySem.W.Frag) (te : TE) : TE := fun σ H Q => te σ H fun x H1 => ∃ a xs, x = .ref a ∧ SqT K H1 a xs ∧ ∀ p H', H1 p = none → Same H1 H' → TupF H' p xs.reverse → Q (.ref p) H'
theorem pe_revF {e : Expr} {te : TE} {k : Nat} {p1 p2 p3 pos : Pos} (he : PE X e te) : PE X (.Subscript e (.Slice none none (some (.UnaryOp .USub (.Constant (.int 1) k p1) p2)) p3) pos) (tRevF X.K te) := by
  refine ⟨fun pn s σ H Q I h => ?_⟩
  refine Subscript_ (thn (he.run pn s σ H _ I h) fun v s1 ⟨x, H1, I1, r1, q1⟩ => ?_)
  obtain ⟨a, xs, ex, hx, q⟩ := q1
  subst ex
  cases r1
  have hst : PO X (some (.UnaryOp .USub (.Constant (.int 1) k p1) p2)) (tPart (tUn (rU fun i => .int (-i)) (tC (.int 1)))) := po_some (pe_un un_neg pe_int)
  refine wpAny_Slice (thn (po_none.run pn s1 σ H1 (fun o H2 => o = none ∧ H2 = H1) I1 ⟨rfl, rfl⟩) fun vl s2 ⟨l, H2, I2, pl, el, e2⟩ => ?_)
  subst el e2
  refine thn (po_none.run pn s2 σ H2 (fun o H3 => o = none ∧ H3 = H2) I2 ⟨rfl, rfl⟩) fun vu s3 ⟨u, H3, I3, pu, eu, e3⟩ => ?_
  subst eu e3
  refine thn (hst.run pn s3 σ H3 (fun o H4 => o = some (-1) ∧ H4 = H3) I3 ⟨1, rfl, -1, rfl, rfl, rfl⟩) fun vs s4 ⟨o, H4, I4, ps, eo, e4⟩ => ?_
  subst eo e4
  have I5 : Inv X pn σ H4 { s4 with heap := s4.heap.push { cls := .type "slice", data := .fields #[vl, vu, vs] } } := I4.kept (t' := s4.toks) fun b ob q => Heap.get?_push_of_some _ q
  obtain ⟨its, r, ht, hz⟩ := I5.tuple hx
  have hlen := r.length
  show wpAny (model X.prog X.w) X.A (subscriptTail e (.Slice none none (some (.UnaryOp .USub (.Constant (.int 1) k p1) p2)) p3) (.ref a) (.ref s4.heap.objs.size)) (EP X pn σ Q) X.xe { s4 with heap := s4.heap.push { cls := .type "slice", data := .fields #[vl, vu, vs] } }
  refine tail_any (ops := [.ref a, .ref s4.heap.objs.size]) ht.typeIs (PyProof.Rows.slot_tuple_getitem.lookup) ?_ (by with_unfolding_all rfl)
  refine item_rev ht (Heap.IsSliceOf.new _ vl vu vs) pl pu ps ?_ (by rw [List.size_toArray]; omega)
  have fr := I5.hok.fresh (Nat.le_refl _)
  exact ⟨.ref _, _, Inv.tupF I5 r.reverse (by rw [List.length_reverse]; exact hz), rfl, q _ _ fr (smN fr) updF⟩
def revD : D → Option D
  | .tuple ds => some (.tuple ds.reverse)
  | _ => none
theorem RpAll.rev {M : Addr → Prop} {H : Hp} : ∀ {vs : List V} {ds : List D}, RpAll M H vs ds → RpAll M H vs.reverse ds.reverse
  | _, _, .nil => .nil
  | _, _, .cons h t => by rw [List.reverse_cons, List.reverse_cons]; exact t.rev.app (.cons h .nil)
theorem dE_rev {e : Expr} {k : Nat} {p1 p2 p3 pos : Pos} {f : EF} {μ : Bool} (h : PE X e (tD μ f)) : PE X (.Subscript e (.Slice none none (some (.UnaryOp .USub (.Constant (.int 1) k p1) p2)) p3) pos) (tD μ (e1 revD f)) := (pe_revF h).wk fun σ H Q q => by
  obtain ⟨M0, H0, ρ, d, R, e, q⟩ := q
  obtain ⟨d1, e1, e⟩ := some_bind e
  refine ⟨M0, H0, ρ, d1, R, e1, fun v H1 s1 r1 => ?_⟩
  cases r1 <;> try (cases e; done)
  rename_i t n l r
  cases e
  exact ⟨_, _, rfl, t.sq, fun p H2 np s2 t2 => q _ H2 (s1.trans s2) (.tup t2 (((R.mono s1).domu μ).not np) (by rw [List.length_reverse]; exact l) (r.rev.mono (.of s2)))⟩
/-- {} -/
theorem dE_dic0 {pos : Pos} {μ : Bool} : PE X (.Dict [] [] pos) (tD μ (eC (.dict []))) := pe_dnewK.wk fun σ H Q q => by
  obtain ⟨M0, H0, ρ, d, R, e, q⟩ := q
  cases e
  exact fun p np => q _ _ (smN np) (.dic upd_same ((R.domu μ).not np) .nil)
/-! ### shown -/
mutual
theorem Rp.readsN {X : Cx} {pn : List (Addr × Obj)} {σ : L2.St} {M : Addr → Prop} {H : Hp} {s : Shared} (I : L2.Inv X pn σ H s) (hB : ∃ o, X.base.get? sysModules = some o) : ∀ {v : V} {d : D} {u : Value}, Rp M H v d → RelV v u → ∃ as, Reads s.heap u d as ∧ sysModules ∉ as
  | _, _, _, .non, r => by cases r; exact ⟨_, .none, by simp⟩
  | _, _, _, .bl b, r => by cases r; exact ⟨_, .bool b, by simp⟩
  | _, _, _, .int i, r => by obtain ⟨t, rfl⟩ := r; exact ⟨_, .int i t, by simp⟩
  | _, _, _, .str x _, r => by obtain ⟨t, rfl⟩ := r; exact ⟨_, .str x t, by simp⟩
  | _, _, _, .tup t n l h, r => by
    cases r
    obtain ⟨its, vi, ⟨o, g, c, k, e⟩, _⟩ := I.tuple t.sq
    obtain ⟨as, ra, na⟩ := RpAll.readsN I hB h vi
    exact ⟨_, .tuple g c e (by simpa using ra), na⟩
  | _, _, _, .lst t n l h, r => by
    cases r
    obtain ⟨_, its, k, vi, g⟩ := I.hok _ _ t
    obtain ⟨as, ra, na⟩ := RpAll.readsN I hB h vi
    refine ⟨_, .list g rfl rfl (by simpa using ra), fun m => ?_⟩
    rcases List.mem_cons.mp m with z | z
    · obtain ⟨o, hB⟩ := hB
      have := (I.bs _ _ hB).2
      rw [z, t] at this
      cases this
    · exact na z
  | _, _, _, .dic e n h, r => by
    cases r
    have hs := (dk_of I.hok e).2.1
    obtain ⟨_, _, vs, kv, o, es, ep, g, x, dd, _, pr, _⟩ := I.hok _ _ e
    obtain ⟨bs, ra, rb, nb⟩ := RpKV.readsN I hB h kv pr
    exact ⟨_, .dict g x.1 dd ra rb, fun m => by
      rcases List.mem_append.mp m with m | m
      · rcases List.mem_cons.mp m with z | z
        · exact beq_eq_false_iff_ne.mp hs z.symm
        · cases z
      · exact nb m⟩
theorem RpKV.readsN {X : Cx} {pn : List (Addr × Obj)} {σ : L2.St} {M : Addr → Prop} {H : Hp} {s : Shared} (I : L2.Inv X pn σ H s) (hB : ∃ o, X.base.get? sysModules = some o) : ∀ {kvs : List (Key × V)} {es : List (D × D)} {us : List (Key × Value)} {el : List DictEntry}, RpKV M H kvs es → KV kvs us → Pairs (mixKind X.prog X.w) el us → ∃ bs, ReadsAll s.heap (el.map (·.key)) (es.map (·.1)) [] ∧ ReadsAll s.heap (el.map (·.val)) (es.map (·.2)) bs ∧ sysModules ∉ bs
  | _, _, _, _, .nil, kv, pr => by
    cases kv
    cases pr
    exact ⟨_, .nil, .nil, by simp⟩
  | _, _, _, _, .cons h t, kv, pr => by
    cases kv with
    | cons a kv =>
      cases pr with
      | cons k1 k2 pr =>
        obtain ⟨as, ra, na⟩ := Rp.readsN I hB h a.2
        obtain ⟨bs, r1, r2, nb⟩ := RpKV.readsN I hB t kv pr
        refine ⟨as ++ bs, .cons (as := []) (key_reads (by have e := a.1; dsimp only at e; rw [e]; exact k1)) r1, .cons ?_ r2, by simp [na, nb]⟩
        dsimp only
        rw [k2]
        exact ra
theorem RpAll.readsN {X : Cx} {pn : List (Addr × Obj)} {σ : L2.St} {M : Addr → Prop} {H : Hp} {s : Shared} (I : L2.Inv X pn σ H s) (hB : ∃ o, X.base.get? sysModules = some o) : ∀ {vs : List V} {ds : List D} {us : List Value}, RpAll M H vs ds → Vals vs us → ∃ as, ReadsAll s.heap us ds as ∧ sysModules ∉ as
  | _, _, _, .nil, r => by cases r; exact ⟨_, .nil, by simp⟩
  | _, _, _, .cons h t, r => by
    cases r with
    | cons r1 r2 =>
      obtain ⟨as, ra, na⟩ := Rp.readsN I hB h r1
      obtain ⟨bs, rb, nb⟩ := RpAll.readsN I hB t r2
      exact ⟨_, .cons ra rb, by simp [na, nb]⟩
end
def reprD : List D → Option D
  | [d] => if d.showable = true ∧ d.depth ≤ 60 ∧ d.shown.length ≤ sizeLine then some (.str d.shown) else none
  | _ => none
theorem c_repr (free : X.A.guards = some []) (hB : ∃ o, X.base.get? sysModules = some o) (hu : X.A.units + 64 < cLine) : CallR X (.builtin "repr") (rC reprD) := by
  intro pn s σ H xs us Q I r h
  obtain ⟨M, ds, d, dm, ra, e, q⟩ := h
  match ds, ra, e with
  | [], _, e => cases e
  | [x], .cons rx .nil, e =>
    obtain ⟨u, rfl, r1⟩ := vals1 r
    obtain ⟨⟨l1, l2, l3⟩, rfl⟩ := iteS e
    obtain ⟨as, rd, na⟩ := Rp.readsN I hB rx r1
    have fin : ∀ (h' : Heap) (u : Tok) (tk : Tok), (∀ b o, s.heap.get? b = some o → h'.get? b = some o) → EP X pn σ Q (.str x.shown u) { s with heap := h', toks := tk } := fun h' u tk hk => ⟨.str _, H, I.kept hk, ⟨_, rfl⟩, q _ _ (Same.refl _) (.str _ l3)⟩
    cases rd with
    | none => exact PySem.P.repr_of_none (fin s.heap _ _ fun _ _ e => e)
    | bool b => exact PySem.P.repr_of_bool (by cases b <;> exact fin s.heap _ _ fun _ _ e => e)
    | int i t => exact PySem.P.repr_of_int (of_decide_eq_true l1) (fin s.heap _ _ fun _ _ e => e)
    | str z t => exact PySem.P.repr_of_str (fin s.heap _ _ fun _ _ e => e) l3
    | list a b c d => exact repr_of_reads' (.list a b c d) l1 (fun _ => na) free (by omega) (fun _ _ e => e) fin l3
    | tuple a b c d => exact repr_of_reads' (.tuple a b c d) l1 (fun _ => na) free (by omega) (fun _ _ e => e) fin l3
    | dict a b c d f => exact repr_of_reads' (.dict a b c d f) l1 (fun _ => na) free (by omega) (fun _ _ e => e) fin l3
  | _ :: _ :: _, _, e => cases e
end
end Dl
namespace Dl
open PySem PySem.Spec PyProof.Rows L2 Rt
theorem str_ne_no_dict (b : Str) (u : Tok) (l : Addr) (o : Obj) (es : Array DictEntry) (n : Nat) (hc : o.cls = .type "dict") (hd : o.data = .dict es n) : Meets (Builtin.«str.__ne__» { pos := [.str b u, .ref l] }) fun _ R s => s.heap.get? l = some o ∧ R (.ok (.ret .notImplemented)) s :=
  Meets.of_wp fun prog w A R s h => by
    obtain ⟨hp, g, d, tk, os⟩ := s
    obtain ⟨hl, h⟩ := h
    obtain ⟨cls, dd, dat, sl⟩ := o
    cases hc
    cases hd
    unfold Builtin.«str.__ne__»
    refine wpAny_bind (wpAny_bind ?_)
    unfold slotArgs
    refine wpAny_ite_false rfl (wpAny_ite_false rfl (wpAny_pure (wpAny_bind ?_)))
    unfold Builtin.Str.textOf
    refine wpAny_bind (wpAny_pure (wpAny_pure (wpAny_pure (wpAny_bind ?_))))
    unfold asStr?
    refine wpAny_bind (wpAny_load hl (wpAny_pure (wpAny_bind (wpAny_rule (wpAny_pure ⟨_, rfl, h⟩)))))
theorem dict_ne_no {x : Value} {T : String} (hT : isSubtype (.type T) (.type "dict") = pure false) (l : Addr) : Meets (Builtin.«dict.__ne__» { pos := [.ref l, x] }) fun _ R s => s.TypeIs x T ∧ R (.ok (.ret .notImplemented)) s :=
  Meets.of_wp fun prog w A R s h => by
    obtain ⟨hl, h⟩ := h
    unfold Builtin.«dict.__ne__»
    refine wpAny_bind ?_
    unfold Builtin.Dict.dictSlotArgs
    refine wpAny_bind ?_
    unfold Builtin.Dict.notOrdered
    refine wpAny_ite_false rfl (wpAny_pure (wpAny_bind ?_))
    unfold slotArgs
    refine wpAny_ite_false rfl (wpAny_ite_false rfl (wpAny_pure (wpAny_pure (wpAny_bind ?_))))
    unfold isInstance
    refine wpAny_bind (wpAny_typeOf hl (wpAny_of_eq hT (wpAny_ite_true rfl (wpAny_bind (wpAny_rule (wpAny_pure ⟨_, rfl, h⟩))))))
theorem rcNe_dic_str {A : Around} {s : Shared} {l : Addr} {o : Obj} {es : Array DictEntry} {n : Nat} (i : Str) (t : Tok) (h : IsDic s l o es n) (hu : A.units < cLine) : SeqAt.RcNeAt A s (.ref l) (.str i t) true := fun prog w E Q hQ =>
  SeqAt.rc_ne_decline_or (k := false) h.ty (typeIs_str s i t) (by decide) sub_str_dict F.slot_dict_ne F.slot_str_ne_refl
    (fun _ hq => call_meets F.slot_dict_ne h.ty F.entry_dict_ne (F.args_dict_ne_2 _ _) (dict_ne_no sub_str_dict l) ⟨(typeIs_str s i t), hq⟩)
    (fun _ hq => call_meets F.slot_str_ne_refl (typeIs_str s i t) F.entry_str_ne (F.args_str_ne_2 _ _) (str_ne_no_dict i t l o es n h.cls h.dat) ⟨h.get, hq⟩)
    (fun _ hq => wpAny_of_eq rfl hq) (.inr hu) hQ
theorem rcNe_any_str {A : Around} {s : Shared} {x : Value} {d : D} {as : List Addr} (b : Str) (u : Tok) (r : Reads s.heap x d as) (hu : A.units < cLine) : SeqAt.RcNeAt A s x (.str b u) (!PyData.eqv d (.str b)) := by
  cases r with
  | none => exact SeqAt.RcNeAt.none_str b u
  | bool c => exact SeqAt.RcNeAt.bool_str c b u
  | int c t => exact SeqAt.RcNeAt.int_str c t b u
  | str c t => exact SeqAt.RcNeAt.str_str c t b u
  | list g c e _ => exact SeqAt.RcNeAt.list_str b u ⟨_, g, c, _, e⟩ hu
  | tuple g c e _ => exact SeqAt.RcNeAt.tuple_str b u ⟨_, g, c, _, e⟩ hu
  | dict g c e _ _ => exact rcNe_dic_str b u ⟨g, c, e⟩ hu
section
variable {X : Cx}
/-- anything != a text; else as neD -/
def neQ : D → D → Option D
  | a, .str b => some (.bool (!PyData.eqv a (.str b)))
  | a, b => neD a b
theorem o_neQ (hu : X.A.units + 64 < cLine) : OpR X (compareOp .NotEq) (rD neQ) := by
  intro pn s σ H x y v u Q I rx ry h
  obtain ⟨M, a, b, d, dm, ra, rb, e, q⟩ := h
  by_cases hb : ∃ z, b = .str z
  · obtain ⟨z, rfl⟩ := hb
    cases rb
    have e : some (PyData.bool (!PyData.eqv a (.str z))) = some d := by cases a <;> exact e
    cases e
    obtain ⟨t, rfl⟩ := ry
    obtain ⟨as, r1⟩ := Rp.reads I ra rx
    exact rcNe_any_str z t r1 (by omega) _ _ _ _ ⟨.bl _, H, I, rfl, q _ _ (Same.refl _) (.bl _)⟩
  · refine o_ne hu pn s σ H _ _ v u Q I rx ry ⟨M, a, b, d, dm, ra, rb, ?_, q⟩
    cases b <;> first | exact (hb ⟨_, rfl⟩).elim | (cases a <;> exact e)
end
end Dl
namespace Rt
open PySem PySem.Spec PyProof.Rows L2
def topS (i : Nat) : Stmt := PySem.Challenge.pw_rightage_k08_whole_papers_put_together.main.body.getD i (.Pass ⟨0, 0, 0, 0⟩)
abbrev s_is_number : Stmt := topS 5
theorem sc_is_number : FnScope ["thing"] ["thing"] (defScope s_is_number) := ⟨rfl, rfl, rfl, by decide +kernel, rfl, by decide +kernel, by decide +kernel⟩
abbrev s_is_number_from : Stmt := topS 6
theorem sc_is_number_from : FnScope ["thing", "low", "high"] ["thing", "low", "high"] (defScope s_is_number_from) := ⟨rfl, rfl, rfl, by decide +kernel, rfl, by decide +kernel, by decide +kernel⟩
abbrev s_is_row : Stmt := topS 7
theorem sc_is_row : FnScope ["thing", "fewest", "most"] ["thing", "fewest", "most"] (defScope s_is_row) := ⟨rfl, rfl, rfl, by decide +kernel, rfl, by decide +kernel, by decide +kernel⟩
abbrev s_place_of : Stmt := topS 9
theorem sc_place_of : FnScope ["world", "number"] ["world", "number"] (defScope s_place_of) := ⟨rfl, rfl, rfl, by decide +kernel, rfl, by decide +kernel, by decide +kernel⟩
abbrev s_brings : Stmt := topS 10
theorem sc_brings : FnScope ["world", "source", "moment", "kind", "age", "place", "since", "many"] ["world", "source", "moment"] (defScope s_brings) := ⟨rfl, rfl, rfl, by decide +kernel, rfl, by decide +kernel, by decide +kernel⟩
abbrev s_opens : Stmt := topS 11
theorem sc_opens : FnScope ["world", "way", "moment", "kind", "parts", "keeps", "hours", "wait"] ["world", "way", "moment"] (defScope s_opens) := ⟨rfl, rfl, rfl, by decide +kernel, rfl, by decide +kernel, by decide +kernel⟩
abbrev s_bears : Stmt := topS 12
theorem sc_bears : FnScope ["world", "way", "moment", "origins", "kind", "parts", "keeps", "hours", "wait", "origin"] ["world", "way", "moment", "origins"] (defScope s_bears) := ⟨rfl, rfl, rfl, by decide +kernel, rfl, by decide +kernel, by decide +kernel⟩
abbrev s_paperfault : Stmt := topS 14
theorem sc_paperfault : FnScope ["world", "thing", "fault", "told"] ["world", "thing"] (defScope s_paperfault) := ⟨rfl, rfl, rfl, by decide +kernel, rfl, by decide +kernel, by decide +kernel⟩
abbrev s_things : Stmt := topS 15
theorem sc_things : FnScope ["world", "paper", "fault", "told", "number", "word"] ["world", "paper"] (defScope s_things) := ⟨rfl, rfl, rfl, by decide +kernel, rfl, by decide +kernel, by decide +kernel⟩
abbrev s_followed : Stmt := topS 16
theorem sc_followed : FnScope ["world", "thing", "told", "k", "row", "word"] ["world", "thing"] (defScope s_followed) := ⟨rfl, rfl, rfl, by decide +kernel, rfl, by decide +kernel, by decide +kernel⟩
abbrev s_row_word : Stmt := topS 17
theorem sc_row_word : FnScope ["world", "told", "row", "word", "way", "moment", "parts", "windows", "window", "part"] ["world", "told", "row"] (defScope s_row_word) := ⟨rfl, rfl, rfl, by decide +kernel, rfl, by decide +kernel, by decide +kernel⟩
abbrev s_is_brought_row : Stmt := topS 18
theorem sc_is_brought_row : FnScope ["world", "row"] ["world", "row"] (defScope s_is_brought_row) := ⟨rfl, rfl, rfl, by decide +kernel, rfl, by decide +kernel, by decide +kernel⟩
abbrev s_is_made_row : Stmt := topS 19
theorem sc_is_made_row : FnScope ["world", "ahead", "row", "word", "way", "moment", "parts", "many", "part"] ["world", "ahead", "row"] (defScope s_is_made_row) := ⟨rfl, rfl, rfl, by decide +kernel, rfl, by decide +kernel, by decide +kernel⟩
abbrev s_fits : Stmt := topS 20
theorem sc_fits : FnScope ["window", "thing", "moment", "kind", "least", "greatest", "own_kind", "origin", "born"] ["window", "thing", "moment"] (defScope s_fits) := ⟨rfl, rfl, rfl, by decide +kernel, rfl, by decide +kernel, by decide +kernel⟩
abbrev s_thing_of : Stmt := topS 21
theorem sc_thing_of : FnScope ["world", "told", "row", "kind", "age", "place", "since", "many", "word", "way", "moment", "parts", "origin", "born", "part"] ["world", "told", "row"] (defScope s_thing_of) := ⟨rfl, rfl, rfl, by decide +kernel, rfl, by decide +kernel, by decide +kernel⟩
abbrev s_trimmed : Stmt := topS 22
theorem sc_trimmed : FnScope ["paper", "needed", "numbers", "new", "old"] ["paper"] (defScope s_trimmed) := ⟨rfl, rfl, rfl, by decide +kernel, rfl, by decide +kernel, by decide +kernel⟩
abbrev s_rows_gone_back_to : Stmt := topS 23
theorem sc_rows_gone_back_to : FnScope ["paper", "needed", "k", "part", "row", "wanted"] ["paper"] (defScope s_rows_gone_back_to) := ⟨rfl, rfl, rfl, by decide +kernel, rfl, by decide +kernel, by decide +kernel⟩
abbrev s_parts_of : Stmt := topS 24
theorem sc_parts_of : FnScope ["row"] ["row"] (defScope s_parts_of) := ⟨rfl, rfl, rfl, by decide +kernel, rfl, by decide +kernel, by decide +kernel⟩
abbrev s_led_along : Stmt := topS 25
theorem sc_led_along : FnScope ["row", "numbers", "part"] ["row", "numbers"] (defScope s_led_along) := ⟨rfl, rfl, rfl, by decide +kernel, rfl, by decide +kernel, by decide +kernel⟩
abbrev s_law_draws : Stmt := topS 27
theorem sc_law_draws : FnScope ["_law_script", "_law_cells", "_law_cell"] ["_law_script"] (defScope s_law_draws) := ⟨rfl, rfl, rfl, by decide +kernel, rfl, by decide +kernel, by decide +kernel⟩
abbrev s_law_next : Stmt := topS 28
theorem sc_law_next : FnScope ["_law_drawn", "_law_below", "_law_cells", "_law_turn", "_law_rests", "_law_spot", "_law_digit", "_law_mixed_here", "_law_again"] ["_law_drawn", "_law_below"] (defScope s_law_next) := ⟨rfl, rfl, rfl, by decide +kernel, rfl, by decide +kernel, by decide +kernel⟩
abbrev s_law_one : Stmt := topS 29
theorem sc_law_one : FnScope ["_law_drawn", "_law_wares"] ["_law_drawn", "_law_wares"] (defScope s_law_one) := ⟨rfl, rfl, rfl, by decide +kernel, rfl, by decide +kernel, by decide +kernel⟩
abbrev s_law_alike : Stmt := topS 30
theorem sc_law_alike : FnScope ["_law_one_here", "_law_other", "_law_a", "_law_b"] ["_law_one_here", "_law_other"] (defScope s_law_alike) := ⟨rfl, rfl, rfl, by decide +kernel, rfl, by decide +kernel, by decide +kernel⟩
abbrev s_law_kinds : Stmt := topS 31
theorem sc_law_kinds : FnScope ["_law_drawn", "_law_many", "_law_stem", "_law_first_here", "_law_way_here", "_law_found", "_law_k"] ["_law_drawn", "_law_many"] (defScope s_law_kinds) := ⟨rfl, rfl, rfl, by decide +kernel, rfl, by decide +kernel, by decide +kernel⟩
abbrev s_law_source : Stmt := topS 32
theorem sc_law_source : FnScope ["_law_drawn", "_law_size", "_law_kinds_here", "_law_old", "_law_since", "_law_age", "_law_kind", "_law_place"] ["_law_drawn", "_law_size", "_law_kinds_here", "_law_old"] (defScope s_law_source) := ⟨rfl, rfl, rfl, by decide +kernel, rfl, by decide +kernel, by decide +kernel⟩
abbrev s_law_part : Stmt := topS 33
theorem sc_law_part : FnScope ["_law_drawn", "_law_kinds_here", "_law_old", "_law_least", "_law_greatest"] ["_law_drawn", "_law_kinds_here", "_law_old"] (defScope s_law_part) := ⟨rfl, rfl, rfl, by decide +kernel, rfl, by decide +kernel, by decide +kernel⟩
abbrev s_law_way : Stmt := topS 34
theorem sc_law_way : FnScope ["_law_drawn", "_law_size", "_law_kinds_here", "_law_old", "_law_parts_here", "_law_hours", "_law_keeps", "_law_k", "_law_place"] ["_law_drawn", "_law_size", "_law_kinds_here", "_law_old"] (defScope s_law_way) := ⟨rfl, rfl, rfl, by decide +kernel, rfl, by decide +kernel, by decide +kernel⟩
abbrev s_law_world : Stmt := topS 35
theorem sc_law_world : FnScope ["_law_drawn", "_law_wide", "_law_old", "_law_size", "_law_kinds_here", "_law_many", "_law_sources", "_law_ways", "_law_k"] ["_law_drawn", "_law_wide", "_law_old"] (defScope s_law_world) := ⟨rfl, rfl, rfl, by decide +kernel, rfl, by decide +kernel, by decide +kernel⟩
abbrev s_law_odd : Stmt := topS 36
theorem sc_law_odd : FnScope ["_law_drawn", "_law_some"] ["_law_drawn"] (defScope s_law_odd) := ⟨rfl, rfl, rfl, by decide +kernel, rfl, by decide +kernel, by decide +kernel⟩
abbrev s_law_spoilt : Stmt := topS 37
theorem sc_law_spoilt : FnScope ["_law_drawn", "_law_thing", "_law_spot", "_law_some"] ["_law_drawn", "_law_thing"] (defScope s_law_spoilt) := ⟨rfl, rfl, rfl, by decide +kernel, rfl, by decide +kernel, by decide +kernel⟩
abbrev s_law_first : Stmt := topS 38
theorem sc_law_first : FnScope ["_law_world_here", "_law_number", "_law_kind", "_law_age", "_law_place", "_law_since", "_law_many"] ["_law_world_here", "_law_number"] (defScope s_law_first) := ⟨rfl, rfl, rfl, by decide +kernel, rfl, by decide +kernel, by decide +kernel⟩
abbrev s_law_fits : Stmt := topS 39
theorem sc_law_fits : FnScope ["_law_part_here", "_law_thing", "_law_moment", "_law_age"] ["_law_part_here", "_law_thing", "_law_moment"] (defScope s_law_fits) := ⟨rfl, rfl, rfl, by decide +kernel, rfl, by decide +kernel, by decide +kernel⟩
abbrev s_law_born : Stmt := topS 40
theorem sc_law_born : FnScope ["_law_world_here", "_law_row", "_law_found", "_law_way_here", "_law_origins", "_law_number"] ["_law_world_here", "_law_row", "_law_found"] (defScope s_law_born) := ⟨rfl, rfl, rfl, by decide +kernel, rfl, by decide +kernel, by decide +kernel⟩
abbrev s_law_fresh : Stmt := topS 41
theorem sc_law_fresh : FnScope ["_law_world_here", "_law_part_here", "_law_moment", "_law_found", "_law_k", "_law_kind", "_law_age", "_law_place", "_law_since", "_law_many", "_law_low", "_law_high", "_law_some", "_law_one_here"] ["_law_world_here", "_law_part_here", "_law_moment"] (defScope s_law_fresh) := ⟨rfl, rfl, rfl, by decide +kernel, rfl, by decide +kernel, by decide +kernel⟩
abbrev s_law_parts : Stmt := topS 42
theorem sc_law_parts : FnScope ["_law_drawn", "_law_world_here", "_law_way_here", "_law_moment", "_law_paper_here", "_law_rows", "_law_found", "_law_numbers", "_law_part_here", "_law_some", "_law_fresh_here", "_law_k"] ["_law_drawn", "_law_world_here", "_law_way_here", "_law_moment", "_law_paper_here"] (defScope s_law_parts) := ⟨rfl, rfl, rfl, by decide +kernel, rfl, by decide +kernel, by decide +kernel⟩
abbrev s_law_paper : Stmt := topS 43
theorem sc_law_paper : FnScope ["_law_drawn", "_law_world_here", "_law_many", "_law_paper_here", "_law_clock", "_law_turn", "_law_number", "_law_row", "_law_way_here", "_law_some", "_law_moments", "_law_more", "_law_k", "_law_one_here"] ["_law_drawn", "_law_world_here", "_law_many"] (defScope s_law_paper) := ⟨rfl, rfl, rfl, by decide +kernel, rfl, by decide +kernel, by decide +kernel⟩
abbrev s_law_is : Stmt := topS 44
theorem sc_law_is : FnScope ["_law_thing", "_law_low", "_law_high"] ["_law_thing", "_law_low", "_law_high"] (defScope s_law_is) := ⟨rfl, rfl, rfl, by decide +kernel, rfl, by decide +kernel, by decide +kernel⟩
abbrev s_law_is_row : Stmt := topS 45
theorem sc_law_is_row : FnScope ["_law_world_here", "_law_row", "_law_ahead", "_law_many", "_law_one_here"] ["_law_world_here", "_law_row", "_law_ahead"] (defScope s_law_is_row) := ⟨rfl, rfl, rfl, by decide +kernel, rfl, by decide +kernel, by decide +kernel⟩
abbrev s_law_row_word : Stmt := topS 46
theorem sc_law_row_word : FnScope ["_law_world_here", "_law_row", "_law_found", "_law_first_here", "_law_way_here", "_law_part_here", "_law_number"] ["_law_world_here", "_law_row", "_law_found"] (defScope s_law_row_word) := ⟨rfl, rfl, rfl, by decide +kernel, rfl, by decide +kernel, by decide +kernel⟩
abbrev s_law_looked : Stmt := topS 47
theorem sc_law_looked : FnScope ["_law_world_here", "_law_thing", "_law_found", "_law_k", "_law_word"] ["_law_world_here", "_law_thing"] (defScope s_law_looked) := ⟨rfl, rfl, rfl, by decide +kernel, rfl, by decide +kernel, by decide +kernel⟩
abbrev s_law_bent_paper : Stmt := topS 48
theorem sc_law_bent_paper : FnScope ["_law_drawn", "_law_rows", "_law_way_here", "_law_spot", "_law_row", "_law_parts_here", "_law_at"] ["_law_drawn", "_law_rows"] (defScope s_law_bent_paper) := ⟨rfl, rfl, rfl, by decide +kernel, rfl, by decide +kernel, by decide +kernel⟩
abbrev s_law_led : Stmt := topS 49
theorem sc_law_led : FnScope ["_law_rows", "_law_names", "_law_found", "_law_row", "_law_part_here"] ["_law_rows", "_law_names"] (defScope s_law_led) := ⟨rfl, rfl, rfl, by decide +kernel, rfl, by decide +kernel, by decide +kernel⟩
abbrev s_law_any_of : Stmt := topS 50
theorem sc_law_any_of : FnScope ["_law_some", "_law_left", "_law_one_here"] ["_law_some", "_law_left"] (defScope s_law_any_of) := ⟨rfl, rfl, rfl, by decide +kernel, rfl, by decide +kernel, by decide +kernel⟩
abbrev s_law_mixed : Stmt := topS 51
theorem sc_law_mixed : FnScope ["_law_drawn", "_law_rows", "_law_left", "_law_found", "_law_free", "_law_k"] ["_law_drawn", "_law_rows"] (defScope s_law_mixed) := ⟨rfl, rfl, rfl, by decide +kernel, rfl, by decide +kernel, by decide +kernel⟩
abbrev s_law : Stmt := topS 52
theorem sc_law : FnScope ["_law_script", "_law_drawn", "_law_world_here", "_law_rows", "_law_found", "_law_others", "_law_more", "_law_behind", "_law_order", "_law_names", "_law_turned", "_law_spot", "_law_again", "_law_bent", "_law_at", "_law_word", "_law_fine", "_law_same", "_law_fault", "_law_k"] ["_law_script"] (defScope s_law) := ⟨rfl, rfl, rfl, by decide +kernel, rfl, by decide +kernel, by decide +kernel⟩
section
variable {P : Program} {w : World} {K : PySem.W.Frag} {mg : Str → Option Value} {base : Heap}

/-! ### _law_next -/
def spNext : Sp := fun vs H Q _ => ∃ (g : Gd) (B : Nat) (b : Int), vs = [.ref g.d, .int b] ∧ Fu g B H ∧ 1 ≤ B ∧ 0 < b ∧ b < 2 ^ 60 ∧
  ∀ v H', 0 ≤ v → v < b → Fu g (B - 1) H' → Kp g H H' → Q (.int v) H'
theorem ok_next {f : Addr} {fd : FuncData} {k : Nat} (F : Fun K "_law_next" "_law_next" s_law_next f fd) (m_len : mg "len" = none) : FnOk P w K mg base CX0 (k + 1) f fd ["_law_drawn", "_law_below"] spNext := by
  refine F.ok sc_law_next (fun vs H Q E h => ?_) (fun cdv A outer s H vs Q E hr h => ?_)
  · obtain ⟨g, B, b, rfl, _⟩ := h
    rfl
  · obtain ⟨g, B, b, rfl, ⟨t, D, hB⟩, hB1, hb0, hb, q⟩ := h
    obtain ⟨cs, hc, ec⟩ := D.hc
    obtain ⟨rs, hrr, er⟩ := D.hr
    have n0 := D.n0
    have n63 := D.n63
    have t0 := D.t0
    refine ⟨_, (pss_cons (ps_asg (pv 0) (pg_unl rfl (pgs_cons (pg_name (i := 2) sc_law_next.nd rfl (.inl rfl)) (pgs_cons (pg_name (i := 3) sc_law_next.nd rfl (.inl rfl)) (pgs_cons (pg_name (i := 4) sc_law_next.nd rfl (.inl rfl)) pgs_nil)))))
  (pss_cons (ps_set (i := 5) sc_law_next.nd rfl (.inl rfl) (pe_op op_modL (pv 3) (pe_callB call_len (by rfl) m_len (by decide +kernel) (pa_cons (pv 2) pa_nil))))
  (pss_cons (ps_asg (pe_op op_addL (pv 3) pe_int) (pg_sub (pv 0) pe_int set_listL))
  (pss_cons (ps_if (pt_cmpR op_gt (pe_ix ix_list (pv 4) (pv 5) (fun _ _ => rfl)) pe_int (nomark _))
    (pss_cons (ps_set (i := 6) sc_law_next.nd rfl (.inl rfl) (pe_op op_modL (pe_ix ix_list (pv 4) (pv 5) (fun _ _ => rfl)) (pv 1)))
  (pss_cons (ps_asg (pe_op op_divL (pe_ix ix_list (pv 4) (pv 5) (fun _ _ => rfl)) (pv 1)) (pg_sub (pv 4) (pv 5) set_listL))
  (pss_one (ps_ret (pv 6)))))
    pss_nil)
  (pss_cons (ps_set (i := 7) sc_law_next.nd rfl (.inl rfl) (pe_op op_modL (pe_op op_powL (pe_op op_addL (pe_op op_addL (pe_op op_modL (pe_ix ix_list (pv 2) (pv 5) (fun _ _ => rfl)) pe_int) (pe_op op_mulL pe_int (pv 3))) pe_int) pe_int) pe_int))
  (pss_cons (ps_set (i := 8) sc_law_next.nd rfl (.inl rfl) (pe_op op_modL (pe_op op_powL (pe_op op_addL (pe_op op_addL (pv 7) (pe_op op_mulL (pe_op op_mulL pe_int (pv 3)) (pv 3))) pe_int) pe_int) pe_int))
  (pss_one (ps_ret (pe_op op_modL (pe_op op_modL (pe_op op_addL (pe_op op_mulL (pv 8) pe_int) (pv 7)) pe_int) (pv 1)))))))))), ?_⟩
    -- cells, turn, rests = drawn
    refine ⟨.ref g.d, rfl, g.d, _, rfl, SqL.of D.hd, rfl, .ref g.c, _, rfl, .int t, _, rfl, .ref g.r, _, rfl, rfl, ?_⟩
    -- spot = turn % len(cells)
    refine ⟨.int t, rfl, .ref g.c, rfl, .ref g.c, g.n, rfl, .inl ⟨_, SqL.of hc, by rw [List.length_map, ec]⟩, t, (g.n : Int), rfl, rfl, by omega, fun sp esp hs0 hs1 => ?_⟩
    -- drawn[1] = turn + 1
    refine ⟨.int t, rfl, t, 1, rfl, rfl, fun t1 et1 => ⟨.ref g.d, rfl, g.d, _, 1, 1, rfl, rfl, D.hd, rfl, fun H1 eH1 => ?_⟩⟩
    have eH1 : H1 = upd H g.d (.lst [.ref g.c, .int t1, .ref g.r]) := eH1
    have D1 : Dr g t1 H1 := by
      subst eH1
      exact ⟨upd_same, ⟨cs, by rw [upd_ne D.dc.symm]; exact hc, ec⟩, ⟨rs, by rw [upd_ne D.dr.symm]; exact hrr, er⟩, D.dc, D.dr, D.cr, D.n0, D.n63, by omega⟩
    have K1 : Kp g H H1 := fun p o h1 h2 e => by
      subst eH1
      rw [upd_ne h1]
      exact e
    have hc1 : H1 g.c = some (.lst (cs.map V.int)) := by subst eH1; rw [upd_ne D.dc.symm]; exact hc
    have hr1 : H1 g.r = some (.lst (rs.map V.int)) := by subst eH1; rw [upd_ne D.dr.symm]; exact hrr
    -- if rests[spot] > 0
    obtain ⟨rv, hrv, rmem, _⟩ := atI_in (xs := rs.map V.int) (i := sp) hs0 (by rw [List.length_map, er]; exact hs1)
    obtain ⟨x, xm, rfl⟩ := List.mem_map.mp rmem
    obtain ⟨cv, hcv, cmem, _⟩ := atI_in (xs := cs.map V.int) (i := sp) hs0 (by rw [List.length_map, ec]; exact hs1)
    obtain ⟨y, ym, rfl⟩ := List.mem_map.mp cmem
    refine ⟨.ref g.r, rfl, .int sp, rfl, g.r, _, sp, _, rfl, rfl, SqL.of hr1, hrv, x, 0, rfl, rfl, _, rfl, ite2 (fun e => ?_) (fun e => ?_)⟩
    · -- a digit of a great cell
      refine ⟨.ref g.r, rfl, .int sp, rfl, g.r, _, sp, _, rfl, rfl, SqL.of hr1, hrv, .int b, rfl, x, b, rfl, rfl, hb0, fun dg edg hd0 hd1 => ?_⟩
      refine ⟨.ref g.r, rfl, .int sp, rfl, g.r, _, sp, _, rfl, rfl, SqL.of hr1, hrv, .int b, rfl, x, b, rfl, rfl, wide_div (b := 60) hb0 (by omega) (by decide) (by decide), fun z ez => ?_⟩
      refine ⟨.ref g.r, rfl, .int sp, rfl, g.r, _, sp, sp.toNat, rfl, rfl, hr1, ixN_in hs0 (by rw [List.length_map, er]; exact hs1), fun H2 eH2 => ?_⟩
      refine ⟨.int dg, rfl, ?_⟩
      have em : (rs.map V.int).set sp.toNat (.int z) = (rs.set sp.toNat z).map V.int := by rw [List.map_set]
      rw [em] at eH2
      subst eH2
      refine q _ _ hd0 hd1 ⟨t1, ⟨?_, ⟨cs, ?_, ec⟩, ⟨_, upd_same, by rw [List.length_set, er]⟩, D.dc, D.dr, D.cr, D.n0, D.n63, by omega⟩, by omega⟩ (fun p o h1 h2 e => ?_)
      · rw [upd_ne D.dr]; exact D1.hd
      · rw [upd_ne D.cr]; exact hc1
      · rw [upd_ne h2]; exact K1 p o h1 h2 e
    · -- a mixed one
      have ht : t ≤ 1000000 := by omega
      have htt0 : 0 ≤ 4409 * t * t := Int.mul_nonneg (by omega) t0
      have htt1 : 4409 * t * t ≤ 4409 * 1000000 * 1000000 := Int.mul_le_mul (by omega) ht t0 (by decide)
      refine ⟨.ref g.c, rfl, .int sp, rfl, g.c, _, sp, _, rfl, rfl, SqL.of hc1, hcv, y, 2147483629, rfl, rfl, by decide, fun y1 ey1 hy0 hy1 => ?_⟩
      refine ⟨.int t, rfl, 30011, t, rfl, rfl, .inl ⟨by decide, by decide⟩, fun y2 ey2 => ⟨y1, y2, rfl, rfl, fun y3 ey3 => ⟨y3, 5171, rfl, rfl, fun y4 ey4 => ⟨y4, 3, rfl, rfl, by decide, by decide, by omega, fun y5 ey5 => ⟨y5, 2147483587, rfl, rfl, by decide, fun m em hm0 hm1 => ?_⟩⟩⟩⟩⟩
      refine ⟨.int m, rfl, .int t, rfl, 4409, t, rfl, rfl, .inl ⟨by decide, by decide⟩, fun u1 eu1 => ⟨.int t, rfl, u1, t, rfl, rfl, .inl ⟨by omega, by omega⟩, fun u2 eu2 => ⟨m, u2, rfl, rfl, fun u3 eu3 => ⟨u3, 13, rfl, rfl, fun u4 eu4 => ⟨u4, 3, rfl, rfl, by decide, by decide, ?_, fun u5 eu5 => ⟨u5, 2147483563, rfl, rfl, by decide, fun a ea ha0 ha1 => ?_⟩⟩⟩⟩⟩⟩
      · subst eu1
        omega
      · refine ⟨.int a, rfl, a, 2147483423, rfl, rfl, .inl ⟨by omega, by omega⟩, fun v1 ev1 => ⟨.int m, rfl, v1, m, rfl, rfl, fun v2 ev2 => ⟨v2, 4611686018427387847, rfl, rfl, by decide, fun v3 ev3 hv0 hv1 => ⟨.int b, rfl, v3, b, rfl, rfl, hb0, fun v4 ev4 hv2 hv3 => ?_⟩⟩⟩⟩
        exact q _ _ hv2 hv3 ⟨t1, D1, by omega⟩ K1
end
end Rt
namespace Rt
open PySem PySem.Spec PyProof.Rows L2
theorem sm_new {H : Hp} {p : Addr} {o : HO} (h : H p = none) : Same H (upd H p o) := fun b x e => by
  rw [upd_ne (ne_of_none e h)]
  exact e
theorem sm_mut {H H' : Hp} {p : Addr} {o : HO} (e : Same H H') (h : H p = none) : Same H (upd H' p o) := fun b x z => by
  rw [upd_ne (ne_of_none z h)]
  exact e b x z
theorem cut63 (ns : List Int) : cutV (ns.map V.int) none (some 63) = (ns.take 63).map V.int := by
  unfold cutV
  rw [show HT.sIx (ns.map V.int).length (ns.map V.int).length (some 63) = min 63 (ns.map V.int).length from HT.sIx_nat _ _ 63, HT.sIx_none, List.drop_zero, List.map_take, Nat.sub_zero]
  rw [← List.take_take]
  rw [List.take_length]
theorem ne_of_some {H : Hp} {p q : Addr} {o : HO} (h : H p = some o) (n : H q = none) : q ≠ p := fun e => by
  rw [e, h] at n
  cases n
section
variable {P : Program} {w : World} {K : PySem.W.Frag} {mg : Str → Option Value} {base : Heap}

def spDraws (K : PySem.W.Frag) : Sp := fun vs H Q _ => ∃ (a : Addr) (ns : List Int), vs = [.ref a] ∧ SqL K H a (ns.map V.int) ∧ ns.length ≤ 63 ∧
  ∀ g H', Same H H' → Fu g 1000000 H' → Q (.ref g.d) H'
theorem ok_draws {f : Addr} {fd : FuncData} {k : Nat} (F : Fun K "_law_draws" "_law_draws" s_law_draws f fd) (m_len : mg "len" = none) (m_list : mg "list" = none) (m_int : mg "int" = none) : FnOk P w K mg base CX0 (k + 1) f fd ["_law_script"] (spDraws K) := by
  refine F.ok sc_law_draws (fun vs H Q E h => ?_) (fun cdv A outer s H vs Q E hr h => ?_)
  · obtain ⟨a, ns, rfl, _⟩ := h
    rfl
  · obtain ⟨a, ns, rfl, hS, hn, q⟩ := h
    refine ⟨_, (pss_cons (ps_set (i := 1) sc_law_draws.nd rfl (.inl rfl) (pe_op op_cat (pe_callTy call_list_of (by rfl) m_list (by decide +kernel) (pa_cons (pe_slice sl_list (pv 0) po_none (po_some pe_int)) pa_nil)) (pe_op op_rep (pe_lstL (pa_cons pe_int pa_nil)) (pe_callTy call_int1 (by rfl) m_int (by decide +kernel) (pa_cons (pe_cmpR op_eq (pe_callB call_len (by rfl) m_len (by decide +kernel) (pa_cons (pv 0) pa_nil)) pe_int (nomark _)) pa_nil)))))
  (pss_one (ps_ret (pe_lstL (pa_cons (pv 1) (pa_cons pe_int (pa_cons (pe_lc (own := [("_law_cell", 2)]) (g := (gName 2)) (tt := tYes) rfl sc_law_draws.nd (pi_list (pv 1)) (blkOk_by (own := [("_law_cell", 2)]) (N := ["_law_script", "_law_cells", "_law_cell"]) (sc := defScope s_law_draws) (by decide +kernel)) (fun _ _ _ _ _ => (pg_name (i := 2) sc_law_draws.nd rfl (.inl rfl))) (fun _ _ _ _ _ => pts_nil) (fun _ _ _ _ _ => (pe_op op_mulL (pv 2) (pe_callTy call_int1 (by rfl) m_int (by decide +kernel) (pa_cons (pe_cmpR op_ge (pv 2) (pe_op op_powL pe_int pe_int) (nomark _)) pa_nil))))) pa_nil))))))), ?_⟩
    -- list(script[:63])
    refine ⟨.ref a, rfl, 63, rfl, a, ns.map V.int, rfl, hS, fun c0 n0 => ⟨c0, _, rfl, .inl (SqL.of upd_same), fun l nl => ?_⟩⟩
    rw [cut63]
    have s1 : Same H (upd (upd H c0 (.lst ((ns.take 63).map V.int))) l (.lst ((ns.take 63).map V.int))) := sm_mut (sm_new n0) (by
      cases e : H l with
      | none => rfl
      | some o => rw [sm_new n0 _ _ e] at nl; cases nl)
    generalize eH1 : upd (upd H c0 (.lst ((ns.take 63).map V.int))) l (.lst ((ns.take 63).map V.int)) = H1 at s1 ⊢
    have hl1 : H1 l = some (.lst ((ns.take 63).map V.int)) := by rw [← eH1]; exact upd_same
    -- [0] * int(len(script) == 0)
    refine ⟨by decide, fun p2 H2 np2 eH2 => ⟨.ref a, rfl, .ref a, ns.length, rfl, .inl ⟨_, (s1.trans (by rw [eH2]; exact sm_new np2)).seq hS, by rw [List.length_map]⟩, rfl, .inr ⟨_, rfl, ?_⟩⟩⟩
    have s2 : Same H1 H2 := by rw [eH2]; exact sm_new np2
    have hp2 : H2 p2 = some (.lst [.int 0]) := by rw [eH2]; exact upd_same
    have hl2 := s2 _ _ hl1
    obtain ⟨j, ej, hj⟩ : ∃ j : Nat, (if decide (V.int (ns.length : Int) = V.int 0) = true then (1 : Int) else 0) = (j : Int) ∧ (j = 1 ∧ ns.length = 0 ∨ j = 0 ∧ 0 < ns.length) := by
      by_cases e0 : ns.length = 0
      · exact ⟨1, by rw [e0]; rfl, .inl ⟨rfl, e0⟩⟩
      · refine ⟨0, ?_, .inr ⟨rfl, by omega⟩⟩
        rw [if_neg]
        · rfl
        · intro z
          have z2 := V.int.inj (of_decide_eq_true z)
          omega
    refine ⟨p2, (j : Int), [.int 0], rfl, by rw [← ej], hp2, by omega, by omega, by show 1 * (j : Int).toNat ≤ _; exact sz (by omega), fun p3 np3 => ?_⟩
    have el : (List.replicate ((j : Int).toNat) [V.int 0]).flatten = (List.replicate j (0 : Int)).map V.int := by
      rw [Int.toNat_natCast]
      rcases hj with ⟨rfl, _⟩ | ⟨rfl, _⟩ <;> rfl
    rw [el]
    have hl3 : upd H2 p3 (.lst ((List.replicate j (0 : Int)).map V.int)) l = some (.lst ((ns.take 63).map V.int)) := sm_new np3 _ _ hl2
    refine ⟨l, p3, _, _, rfl, rfl, hl3, upd_same, ?_, fun c nc => ?_⟩
    · rw [List.length_map, List.length_map, List.length_take, List.length_replicate]
      exact sz (by omega)
    rw [← List.map_append]
    generalize ecs : ns.take 63 ++ List.replicate j (0 : Int) = cs
    have lcs : 0 < cs.length ∧ cs.length ≤ 63 := by
      rw [← ecs, List.length_append, List.length_take, List.length_replicate]
      omega
    have s3 : Same H2 (upd (upd H2 p3 (.lst ((List.replicate j (0 : Int)).map V.int))) c (.lst (cs.map V.int))) := (sm_new np3).trans (sm_new nc)
    generalize eH3 : upd (upd H2 p3 (.lst ((List.replicate j (0 : Int)).map V.int))) c (.lst (cs.map V.int)) = H3 at s3 ⊢
    have hc3 : H3 c = some (.lst (cs.map V.int)) := by rw [← eH3]; exact upd_same
    have sH3 : Same H H3 := (s1.trans s2).trans s3
    -- the rests
    refine ⟨.ref c, rfl, .ref c, rfl, c, rfl, ⟨_, SqL.of hc3⟩, fun D nD => ?_⟩
    have oc : D ≠ c := ne_of_some hc3 nD
    refine lc_list (K := K) (a := c) (xs := cs.map V.int) (fun i H' => Same H3 H' ∧ ∃ rs : List Int, H' D = some (.lst (rs.map V.int)) ∧ rs.length = i) ⟨sm_new nD, [], upd_same, rfl⟩ (fun i H' _ h => SqL.of (h.1 _ _ hc3)) (fun i x H' hx h => ?_) (fun H4 h => ?_)
    · obtain ⟨sm, rs, eD, er⟩ := h
      have hi : i < (cs.map V.int).length := (List.getElem?_eq_some_iff.mp hx).1
      rw [List.length_map] at hi
      obtain ⟨z, rfl⟩ : ∃ z, x = V.int z := by
        rw [List.getElem?_map, List.getElem?_eq_getElem hi] at hx
        exact ⟨_, (Option.some.inj hx).symm⟩
      refine ⟨rfl, .int z, rfl, .int z, rfl, 10, 18, rfl, rfl, by decide, by decide, by decide, fun y ey => ⟨z, y, rfl, rfl, .inr ⟨_, rfl, ?_⟩⟩⟩
      refine ⟨z, _, rfl, rfl, .inr ?_, fun v ev => ⟨_, eD, ?_, sm_mut sm nD, rs ++ [v], ?_, ?_⟩⟩
      · split <;> decide
      · rw [List.length_map, er]
        exact szl (by omega)
      · rw [upd_same, List.map_append]
        rfl
      · rw [List.length_append, er]
        rfl
    · obtain ⟨sm, rs, eD, er⟩ := h
      rw [List.length_map] at er
      refine ⟨sz (n := 3) (by decide), fun d H5 nd eH5 => ?_⟩
      have hc4 := sm _ _ hc3
      subst eH5
      refine q ⟨d, c, D, cs.length⟩ _ (sH3.trans (sm.trans (sm_new nd))) ⟨0, ⟨upd_same, ⟨cs, sm_new nd _ _ hc4, rfl⟩, ⟨rs, sm_new nd _ _ eD, er⟩, ne_of_some hc4 nd, ne_of_some eD nd, oc.symm, lcs.1, lcs.2, by decide⟩, by decide⟩
/-! ### _law_one -/
def spOne (K : PySem.W.Frag) : Sp := fun vs H Q _ => ∃ (g : Gd) (B : Nat) (x : V), vs = [.ref g.d, x] ∧ Fu g B H ∧ 1 ≤ B ∧
  ((∃ p xs, x = .ref p ∧ g.Off p ∧ H p = some (.lst xs) ∧ 0 < xs.length ∧ xs.length ≤ 1000 ∧ ∀ v H', v ∈ xs → Fu g (B - 1) H' → Kp g H H' → Q v H') ∨
   (∃ p xs, x = .ref p ∧ H p = some (.tup xs) ∧ 0 < xs.length ∧ xs.length ≤ 1000 ∧ ∀ v H', v ∈ xs → Fu g (B - 1) H' → Kp g H H' → Q v H') ∨
   (∃ z : Str, x = .str z ∧ 0 < z.length ∧ z.length ≤ 1000 ∧ ∀ (c : Nat) H', c ∈ z.cps.toList → Fu g (B - 1) H' → Kp g H H' → Q (.str ⟨#[c]⟩) H'))
theorem ok_one {f : Addr} {fd : FuncData} (F : Fun K "_law_one" "_law_one" s_law_one f fd) (m_len : mg "len" = none) (C__law_next : Cl P w K mg base 1 "_law_next" ["_law_drawn", "_law_below"] spNext) : FnOk P w K mg base CX0 2 f fd ["_law_drawn", "_law_wares"] (spOne K) := by
  refine F.ok sc_law_one (fun vs H Q E h => ?_) (fun cdv A outer s H vs Q E hr h => ?_)
  · obtain ⟨g, B, x, rfl, _⟩ := h
    rfl
  · obtain ⟨g, B, x, rfl, hF, hB, h⟩ := h
    refine ⟨_, (pss_one (ps_ret (pe_ix ix_seq (pv 1) (pe_cl C__law_next (hr.mono (by omega)) (by rfl) (pa_cons (pv 0) (pa_cons (pe_callB call_len (by rfl) m_len (by decide +kernel) (pa_cons (pv 1) pa_nil)) pa_nil))) (fun _ _ => rfl)))), ?_⟩
    rcases h with ⟨p, xs, rfl, oP, hp, h0, h1, q⟩ | ⟨p, xs, rfl, hp, h0, h1, q⟩ | ⟨z, rfl, h0, h1, q⟩
    · refine ⟨.ref p, rfl, .ref g.d, rfl, .ref p, rfl, .ref p, xs.length, rfl, .inl ⟨_, SqL.of hp, rfl⟩, g, B, (xs.length : Int), rfl, hF, hB, by omega, by omega, fun i H' i0 i1 F' K' => .inl ?_⟩
      obtain ⟨v, hv, vm, _⟩ := atI_in (xs := xs) i0 i1
      exact ⟨p, xs, i, v, rfl, rfl, SqL.of (K'.off oP hp), hv, q v H' vm F' K'⟩
    · refine ⟨.ref p, rfl, .ref g.d, rfl, .ref p, rfl, .ref p, xs.length, rfl, .inr ⟨_, SqT.of hp, rfl⟩, g, B, (xs.length : Int), rfl, hF, hB, by omega, by omega, fun i H' i0 i1 F' K' => .inr (.inl ?_)⟩
      obtain ⟨v, hv, vm, _⟩ := atI_in (xs := xs) i0 i1
      exact ⟨p, xs, i, v, rfl, rfl, SqT.of (hF.tk K' p xs hp), hv, q v H' vm F' K'⟩
    · refine ⟨.str z, rfl, .ref g.d, rfl, .str z, rfl, .str z, z.length, rfl, ⟨sz (by omega), rfl⟩, g, B, (z.length : Int), rfl, hF, hB, by omega, by omega, fun i H' i0 i1 F' K' => .inr (.inr ?_)⟩
      have ez : z.cps.toList.length = z.length := by simp [Str.length]
      obtain ⟨c, hc, cm, _⟩ := atI_in (xs := z.cps.toList) i0 (by rw [ez]; exact i1)
      exact ⟨z, i, c, rfl, rfl, sz (by omega), hc, q c H' cm F' K'⟩
end
end Rt
namespace Dl
open PySem PySem.Spec PyProof.Rows L2 Rt

theorem isi_int (d : D) : isTy "int" d = some (.bool (match d with | .int _ => true | .bool _ => true | _ => false)) := by
  cases d <;> (unfold isTy tyN; first | rw [show kitB "NoneType" "int" = some false by decide +kernel] | rw [show kitB "bool" "int" = some true by decide +kernel] | rw [show kitB "int" "int" = some true by decide +kernel] | rw [show kitB "str" "int" = some false by decide +kernel] | rw [show kitB "list" "int" = some false by decide +kernel] | rw [show kitB "tuple" "int" = some false by decide +kernel] | rw [show kitB "dict" "int" = some false by decide +kernel]) <;> rfl
theorem isi_bool (d : D) : isTy "bool" d = some (.bool (match d with | .bool _ => true | _ => false)) := by
  cases d <;> (unfold isTy tyN; first | rw [show kitB "NoneType" "bool" = some false by decide +kernel] | rw [show kitB "bool" "bool" = some true by decide +kernel] | rw [show kitB "int" "bool" = some false by decide +kernel] | rw [show kitB "str" "bool" = some false by decide +kernel] | rw [show kitB "list" "bool" = some false by decide +kernel] | rw [show kitB "tuple" "bool" = some false by decide +kernel] | rw [show kitB "dict" "bool" = some false by decide +kernel]) <;> rfl
theorem isi_tuple (d : D) : isTy "tuple" d = some (.bool (match d with | .tuple _ => true | _ => false)) := by
  cases d <;> (unfold isTy tyN; first | rw [show kitB "NoneType" "tuple" = some false by decide +kernel] | rw [show kitB "bool" "tuple" = some false by decide +kernel] | rw [show kitB "int" "tuple" = some false by decide +kernel] | rw [show kitB "str" "tuple" = some false by decide +kernel] | rw [show kitB "list" "tuple" = some false by decide +kernel] | rw [show kitB "tuple" "tuple" = some true by decide +kernel] | rw [show kitB "dict" "tuple" = some false by decide +kernel]) <;> rfl
theorem isi_str (d : D) : isTy "str" d = some (.bool (match d with | .str _ => true | _ => false)) := by
  cases d <;> (unfold isTy tyN; first | rw [show kitB "NoneType" "str" = some false by decide +kernel] | rw [show kitB "bool" "str" = some false by decide +kernel] | rw [show kitB "int" "str" = some false by decide +kernel] | rw [show kitB "str" "str" = some true by decide +kernel] | rw [show kitB "list" "str" = some false by decide +kernel] | rw [show kitB "tuple" "str" = some false by decide +kernel] | rw [show kitB "dict" "str" = some false by decide +kernel]) <;> rfl
/-! ### what the values are -/
def isNum : D → Bool
  | .int _ => true
  | _ => false
def isFrom (lo hi : Int) : D → Bool
  | .int i => decide (lo ≤ i) && decide (i ≤ hi)
  | _ => false
def isRow (lo hi : Int) : D → Bool
  | .tuple ds => decide (lo ≤ ds.length) && decide ((ds.length : Int) ≤ hi)
  | _ => false
def sNum : List D → Option D
  | [d] => some (.bool (isNum d))
  | _ => none
def sFrom : List D → Option D
  | [d, .int lo, .int hi] => some (.bool (isFrom lo hi d))
  | _ => none
def sRow : List D → Option D
  | [d, .int lo, .int hi] => some (.bool (isRow lo hi d))
  | _ => none
section
variable {P : Program} {w : World} {K : PySem.W.Frag} {mg : Str → Option Value} {base : Heap}
theorem ok_num {f : Addr} {fd : FuncData} (F : Fun K "is_number" "is_number" s_is_number f fd) (m_isinstance : mg "isinstance" = none) (m_int : mg "int" = none) (m_bool : mg "bool" = none) : FnOk P w K mg base CX0 1 f fd ["thing"] (spD 1 sNum) := by
  refine okFn F sc_is_number rfl fun cdv A outer s H E hr => ⟨_, (dSs_one (dS_ret (ps_ret (dE_and (dE_isi (dE_var (μ := true) (pv 0)) (pe_bltn (v := .ty "int") (by rfl) m_int (by decide +kernel) rfl) (by rfl) m_isinstance (by decide +kernel)) (dE_one (dE_not (dE_isi (dE_var (μ := true) (pv 0)) (pe_bltn (v := .ty "bool") (by rfl) m_bool (by decide +kernel) rfl) (by rfl) m_isinstance (by decide +kernel)))))))), fun ds d l e => ?_⟩
  match ds, e with
  | [x], e =>
    cases e
    refine ⟨.rt (.bool (isNum x)), ?_, rfl⟩
    simp only [startR, sRet, eAnd, eNot, e1, eVar, isi_int, isi_bool]
    cases x <;> rfl
theorem ok_from {f : Addr} {fd : FuncData} (F : Fun K "is_number_from" "is_number_from" s_is_number_from f fd) (C_is_number : Cl P w K mg base 1 "is_number" ["thing"] (spD 1 sNum)) : FnOk P w K mg base CX0 2 f fd ["thing", "low", "high"] (spD 3 sFrom) := by
  refine okFn F sc_is_number_from rfl fun cdv A outer s H E hr => ⟨_, (dSs_one (dS_ret (ps_ret (dE_and (dE_cl C_is_number (hr.mono (by omega)) (by rfl) (dA_cons (dE_var (μ := true) (pv 0)) (dA_nil (μ := true)))) (dE_one (dE_chain o_le o_le (dE_var (μ := true) (pv 1)) (dE_var (μ := true) (pv 0)) (dE_var (μ := true) (pv 2)))))))), fun ds d l e => ?_⟩
  match ds, e with
  | [x, .int lo, .int hi], e =>
    cases e
    refine ⟨.rt (.bool (isFrom lo hi x)), ?_, rfl⟩
    cases x <;> try rfl
    rename_i i
    by_cases h : lo ≤ i <;> simp [startR, sRet, eAnd, eCall, gN, aCons, aNil, sNum, eVar, eChain, isNum, isFrom, leD, bB, h]
theorem ok_row {f : Addr} {fd : FuncData} (F : Fun K "is_row" "is_row" s_is_row f fd) (m_isinstance : mg "isinstance" = none) (m_tuple : mg "tuple" = none) (m_len : mg "len" = none) : FnOk P w K mg base CX0 1 f fd ["thing", "fewest", "most"] (spD 3 sRow) := by
  refine okFn F sc_is_row rfl fun cdv A outer s H E hr => ⟨_, (dSs_one (dS_ret (ps_ret (dE_and (dE_isi (dE_var (μ := true) (pv 0)) (pe_bltn (v := .ty "tuple") (by rfl) m_tuple (by decide +kernel) rfl) (by rfl) m_isinstance (by decide +kernel)) (dE_one (dE_chain o_le o_le (dE_var (μ := true) (pv 1)) (dE_callB c_len (by rfl) m_len (by decide +kernel) (dA_cons (dE_var (μ := true) (pv 0)) (dA_nil (μ := true)))) (dE_var (μ := true) (pv 2)))))))), fun ds d l e => ?_⟩
  match ds, e with
  | [x, .int lo, .int hi], e =>
    cases e
    refine ⟨.rt (.bool (isRow lo hi x)), ?_, rfl⟩
    simp only [startR, sRet, eAnd, e1, eVar, isi_tuple]
    cases x <;> try rfl
    rename_i xs
    by_cases h : lo ≤ xs.length <;> simp [isi_tuple, eChain, eCall, aCons, aNil, lenD, eVar, isRow, leD, bB, h]
end
end Dl
namespace Dl
open PySem PySem.Spec PyProof.Rows L2 Rt
/-! ### going through a body, step by step -/
theorem ev_guard {c : Rho → Option Bool} {e : EF} {g : Rho → Option Out} {ρ : Rho} {b : Bool} {d : D} (hc : c ρ = some b) (he : e ρ = some d) : sSeq (sIf c (sRet e) sNil) g ρ = if b = true then some (.rt d) else g ρ := by
  unfold sSeq sIf
  rw [hc]
  cases b with
  | true =>
    show ((sRet e ρ).bind _) = _
    unfold sRet
    rw [he]
    rfl
  | false => rfl
theorem ev_if {c : Rho → Option Bool} {f h g : Rho → Option Out} {ρ : Rho} {b : Bool} (hc : c ρ = some b) : sSeq (sIf c f h) g ρ = if b = true then sSeq f g ρ else sSeq h g ρ := by
  unfold sSeq sIf
  rw [hc]
  cases b <;> rfl
theorem ev_nil {g : Rho → Option Out} {ρ : Rho} : sSeq sNil g ρ = g ρ := rfl
theorem ev_retS {e : EF} {g : Rho → Option Out} {ρ : Rho} {d : D} (he : e ρ = some d) : sSeq (sRet e) g ρ = some (.rt d) := by
  unfold sSeq sRet
  rw [he]
  rfl
theorem ev_asg {p : Pat} {f : EF} {g : Rho → Option Out} {ρ ρ' : Rho} {d : D} (hf : f ρ = some d) (hb : bindP p d ρ = some ρ') : sSeq (sAsg p f) g ρ = g ρ' := by
  unfold sSeq sAsg
  rw [hf]
  show ((bindP p d ρ).map Out.nx).bind _ = _
  rw [hb]
  rfl
theorem ev_seq {f g : Rho → Option Out} {ρ ρ' : Rho} (hf : f ρ = some (.nx ρ')) : sSeq f g ρ = g ρ' := by
  unfold sSeq
  rw [hf]
  rfl
theorem ev_seqR {f g : Rho → Option Out} {ρ : Rho} {d : D} (hf : f ρ = some (.rt d)) : sSeq f g ρ = some (.rt d) := by
  unfold sSeq
  rw [hf]
  rfl
theorem ev_ret {e : EF} {ρ : Rho} {d : D} (he : e ρ = some d) : sRet e ρ = some (.rt d) := by
  unfold sRet
  rw [he]
  rfl
theorem ev_ifR {c : Rho → Option Bool} {f h : Rho → Option Out} {ρ : Rho} {b : Bool} (hc : c ρ = some b) : sIf c f h ρ = if b = true then f ρ else h ρ := by
  unfold sIf
  rw [hc]
  rfl
/-- a loop whose body tells of each item whether to go on -/
theorem ev_for {p : Pat} {body : Rho → Option Out} {t : D → Option D} (I : Rho → Prop) (hb : ∀ x ρ, I ρ → ∃ ρ1, bindP p x ρ = some ρ1 ∧ ((t x = none ∧ ∃ ρ2, I ρ2 ∧ body ρ1 = some (.nx ρ2)) ∨ ∃ d, t x = some d ∧ body ρ1 = some (.rt d))) :
    ∀ (xs : List D) (ρ : Rho), I ρ → (∃ ρ', I ρ' ∧ xs.findSome? t = none ∧ forGo p body xs ρ = some (.nx ρ')) ∨ ∃ d, xs.findSome? t = some d ∧ forGo p body xs ρ = some (.rt d)
  | [], ρ, i => .inl ⟨ρ, i, rfl, rfl⟩
  | x :: xs, ρ, i => by
    obtain ⟨ρ1, e1, h⟩ := hb x ρ i
    rcases h with ⟨ht, ρ2, i2, e2⟩ | ⟨d, ht, e2⟩
    · rcases ev_for I hb xs ρ2 i2 with ⟨ρ', i', e3, e4⟩ | ⟨d, e3, e4⟩
      · refine .inl ⟨ρ', i', by rw [List.findSome?_cons, ht]; exact e3, ?_⟩
        unfold forGo
        rw [e1]
        show (body ρ1).bind _ = _
        rw [e2]
        exact e4
      · refine .inr ⟨d, by rw [List.findSome?_cons, ht]; exact e3, ?_⟩
        unfold forGo
        rw [e1]
        show (body ρ1).bind _ = _
        rw [e2]
        exact e4
    · refine .inr ⟨d, by rw [List.findSome?_cons, ht], ?_⟩
      unfold forGo
      rw [e1]
      show (body ρ1).bind _ = _
      rw [e2]
      rfl
/-- a comprehension that tells one thing of each item -/
theorem ev_lc {i : Nat} {f : EF} {ρ : Rho} {t : D → D} (hi : i < ρ.length) : ∀ (xs : List D), (∀ x ∈ xs, f (ρ.set i (some (.dat x))) = some (t x)) → lcGo (.nm i) oYes f ρ xs = some (xs.map t)
  | [], _ => rfl
  | x :: xs, h => by
    unfold lcGo bindP
    rw [if_pos hi]
    show (f (ρ.set i (some (.dat x)))).bind _ = _
    rw [h x (by simp)]
    show (lcGo _ _ _ _ xs).map _ = _
    rw [ev_lc hi xs fun y hy => h y (by simp [hy])]
    rfl
/-- .. and picks -/
theorem ev_lcIf {i : Nat} {c : Rho → Option Bool} {f : EF} {ρ : Rho} {k : D → Bool} {t : D → D} (hi : i < ρ.length) : ∀ (xs : List D), (∀ x ∈ xs, c (ρ.set i (some (.dat x))) = some (k x)) → (∀ x ∈ xs, k x = true → f (ρ.set i (some (.dat x))) = some (t x)) → lcGo (.nm i) c f ρ xs = some ((xs.filter k).map t)
  | [], _, _ => rfl
  | x :: xs, h, h2 => by
    unfold lcGo bindP
    rw [if_pos hi]
    show (c (ρ.set i (some (.dat x)))).bind _ = _
    rw [h x (by simp)]
    show (if k x = true then _ else _) = _
    have ih := ev_lcIf hi xs (fun y hy => h y (by simp [hy])) (fun y hy => h2 y (by simp [hy]))
    cases e : k x with
    | true =>
      rw [if_pos rfl, h2 x (by simp) e]
      show (lcGo _ _ _ _ xs).map _ = _
      rw [ih, List.filter_cons_of_pos e]
      rfl
    | false =>
      rw [if_neg (by simp), ih, List.filter_cons_of_neg (by simp [e])]
theorem bools_map {α : Type} (t : α → Bool) : ∀ xs : List α, boolsD (xs.map fun x => .bool (t x)) = some (xs.map t)
  | [] => rfl
  | x :: xs => by
    show (boolsD (xs.map fun x => .bool (t x))).map _ = _
    rw [bools_map t xs]
    rfl
theorem okD_all : ∀ (ds : List D), PyData.canLayAll0 ds = true → PyData.depthAll ds + 1 ≤ 64 → PyData.hasDictAll ds = false → ∀ d ∈ ds, okD d = true
  | [], _, _, _ => fun d m => nomatch m
  | x :: xs, c, dp, hd => by
    have c2 := Bool.and_eq_true_iff.mp (show (x.canLay0 && PyData.canLayAll0 xs) = true from c)
    have hd2 := Bool.or_eq_false_iff.mp (show (x.hasDict || PyData.hasDictAll xs) = false from hd)
    have dp2 : max x.depth (PyData.depthAll xs) + 1 ≤ 64 := dp
    intro d m
    rcases List.mem_cons.mp m with e | e
    · subst e
      unfold okD SeqAt.shaped
      rw [hd2.1, c2.1]
      have : d.depth ≤ 64 := by omega
      simp [this]
    · exact okD_all xs c2.2 (by omega) hd2.2 d e
theorem okD.tup {ds : List D} (h : okD (.tuple ds) = true) : ∀ d ∈ ds, okD d = true := by
  obtain ⟨h1, h2⟩ := okD.parts h
  have h2 := Bool.and_eq_true_iff.mp h2
  exact okD_all ds h2.1 (of_decide_eq_true h2.2) h1
theorem dep_all : ∀ (ds : List D) (n : Nat), PyData.depthAll ds ≤ n → ∀ d ∈ ds, d.depth ≤ n
  | [], _, _ => fun d m => nomatch m
  | x :: xs, n, h => by
    have h : max x.depth (PyData.depthAll xs) ≤ n := h
    intro d m
    rcases List.mem_cons.mp m with e | e
    · subst e; omega
    · exact dep_all xs n (by omega) d e
theorem okD.tupD {ds : List D} (h : okD (.tuple ds) = true) : ∀ d ∈ ds, okD d = true ∧ d.depth ≤ 63 := fun d m => by
  refine ⟨okD.tup h d m, ?_⟩
  obtain ⟨_, h2⟩ := okD.parts h
  have h2 := Bool.and_eq_true_iff.mp h2
  have h3 : PyData.depthAll ds + 1 ≤ 64 := of_decide_eq_true h2.2
  exact dep_all ds 63 (by omega) d m
theorem okAll : ∀ (ds : List D), (∀ d ∈ ds, okD d = true ∧ d.depth ≤ 63) → PyData.canLayAll0 ds = true ∧ PyData.depthAll ds ≤ 63 ∧ PyData.hasDictAll ds = false
  | [], _ => ⟨rfl, Nat.zero_le _, rfl⟩
  | x :: xs, h => by
    obtain ⟨a, b, c⟩ := okAll xs fun d m => h d (by simp [m])
    obtain ⟨o, dx⟩ := h x (by simp)
    obtain ⟨o1, o2⟩ := okD.parts o
    have o2 := Bool.and_eq_true_iff.mp o2
    refine ⟨Bool.and_eq_true_iff.mpr ⟨o2.1, a⟩, ?_, Bool.or_eq_false_iff.mpr ⟨o1, c⟩⟩
    show max x.depth (PyData.depthAll xs) ≤ 63
    omega
theorem okL {ds : List D} (h : ∀ d ∈ ds, okD d = true ∧ d.depth ≤ 63) : okD (.list ds) = true := by
  obtain ⟨a, b, c⟩ := okAll ds h
  unfold okD SeqAt.shaped
  rw [show (PyData.list ds).hasDict = PyData.hasDictAll ds from rfl, c, show (PyData.list ds).canLay0 = PyData.canLayAll0 ds from rfl, a, show (PyData.list ds).depth = PyData.depthAll ds + 1 from rfl]
  have : PyData.depthAll ds + 1 ≤ 64 := by omega
  simp [this]
theorem okT {ds : List D} (h : ∀ d ∈ ds, okD d = true ∧ d.depth ≤ 63) : okD (.tuple ds) = true := by
  obtain ⟨a, b, c⟩ := okAll ds h
  unfold okD SeqAt.shaped
  rw [show (PyData.tuple ds).hasDict = PyData.hasDictAll ds from rfl, c, show (PyData.tuple ds).canLay0 = PyData.canLayAll0 ds from rfl, a, show (PyData.tuple ds).depth = PyData.depthAll ds + 1 from rfl]
  have : PyData.depthAll ds + 1 ≤ 64 := by omega
  simp [this]
theorem ok_int (i : Int) : okD (.int i) = true ∧ (PyData.int i).depth ≤ 63 := ⟨rfl, Nat.zero_le _⟩
theorem ok_nil : okD (.list []) = true := okL fun d m => nomatch m
theorem nin_tup {a : D} {ds : List D} (h : okD a = true) (h2 : okD (.tuple ds) = true) : ninD a (.tuple ds) = some (.bool (!ds.any fun z => PyData.eqv z a)) := by
  cases a <;> simp [ninD, h, h2]
theorem in_tup {a : D} {ds : List D} (h : okD a = true) (h2 : okD (.tuple ds) = true) : inD a (.tuple ds) = some (.bool (ds.any fun z => PyData.eqv z a)) := by
  cases a <;> simp [inD, h, h2]
theorem eq_ok {a b : D} (h : okD a = true) (h2 : okD b = true) : eqD a b = some (.bool (PyData.eqv a b)) := by
  simp [eqD, h, h2]
theorem ne_ok {a b : D} (h : okD a = true) (h2 : okD b = true) : neD a b = some (.bool (!PyData.eqv a b)) := by
  simp [neD, h, h2]
theorem add_tup {a b : List D} (h : a.length + b.length ≤ sizeLine) : addD (.tuple a) (.tuple b) = some (.tuple (a ++ b)) := by
  show (if a.length + b.length ≤ sizeLine then some (PyData.tuple (a ++ b)) else none) = _
  rw [if_pos h]
theorem add_lst {a b : List D} (h : a.length + b.length ≤ sizeLine) : addD (.list a) (.list b) = some (.list (a ++ b)) := by
  show (if a.length + b.length ≤ sizeLine then some (PyData.list (a ++ b)) else none) = _
  rw [if_pos h]
theorem ev_call {n : Nat} {g : List D → Option D} {f : Rho → Option (List D)} {ρ : Rho} {ds : List D} {d : D} (hf : f ρ = some ds) (hl : ds.length = n) (hg : g ds = some d) : eCall (gN n g) f ρ = some d := by
  unfold eCall gN
  rw [hf]
  show (if ds.length = n then g ds else none) = _
  rw [if_pos hl, hg]
theorem ev_and {f g : EF} {ρ : Rho} {b : Bool} {d : D} (hf : f ρ = some (.bool b)) (hg : b = true → g ρ = some d) (h0 : b = false → d = .bool false) : eAnd f g ρ = some d := by
  unfold eAnd
  rw [hf]
  cases b with
  | true => exact hg rfl
  | false => rw [h0 rfl]; rfl
theorem ev_oOr {f g : Rho → Option Bool} {ρ : Rho} {b : Bool} (hf : f ρ = some b) : oOr f g ρ = if b = true then some true else g ρ := by
  unfold oOr
  rw [hf]
  rfl
theorem ev_oAnd {f g : Rho → Option Bool} {ρ : Rho} {b : Bool} (hf : f ρ = some b) : oAnd f g ρ = if b = true then g ρ else some false := by
  unfold oAnd
  rw [hf]
  rfl
theorem ev_not {f : Rho → Option Bool} {ρ : Rho} {b : Bool} (hf : f ρ = some b) : oNot f ρ = some (!b) := by
  unfold oNot
  rw [hf]
  rfl
theorem ev_oB {f : EF} {ρ : Rho} {b : Bool} (hf : f ρ = some (.bool b)) : oB f ρ = some b := by
  unfold oB
  rw [hf]
  rfl
theorem ev_lcE {μ : Bool} {vs : List Nat} {it : Rho → Option (List D)} {p : Pat} {c : Rho → Option Bool} {f : EF} {ρ : Rho} {items res : List D} (hit : it ρ = some items) (hl : lcGo p c f (wipeR (shutR μ ρ) vs) items = some res) : eLc μ vs it p c f ρ = some (.list res) := by
  unfold eLc
  rw [hit]
  show (lcGo p c f (wipeR (shutR μ ρ) vs) items).map PyData.list = _
  rw [hl]
  rfl
theorem ev_all {μ : Bool} {vs : List Nat} {it : Rho → Option (List D)} {p : Pat} {c : Rho → Option Bool} {f : EF} {ρ : Rho} {items : List D} {α : Type} {xs : List α} {t : α → Bool} (hit : it ρ = some items) (hl : lcGo p c f (wipeR (shutR μ ρ) vs) items = some (xs.map fun x => .bool (t x))) : eCall allD (aCons (eLc μ vs it p c f) aNil) ρ = some (.bool (xs.all t)) := by
  unfold eCall aCons
  rw [ev_lcE hit hl]
  show (boolsD _).map _ = _
  rw [bools_map]
  show some (PyData.bool _) = _
  rw [List.all_map]
  rfl
theorem ev_any {μ : Bool} {vs : List Nat} {it : Rho → Option (List D)} {p : Pat} {c : Rho → Option Bool} {f : EF} {ρ : Rho} {items : List D} {α : Type} {xs : List α} {t : α → Bool} (hit : it ρ = some items) (hl : lcGo p c f (wipeR (shutR μ ρ) vs) items = some (xs.map fun x => .bool (t x))) : eCall anyD (aCons (eLc μ vs it p c f) aNil) ρ = some (.bool (xs.any t)) := by
  unfold eCall aCons
  rw [ev_lcE hit hl]
  show (boolsD _).map _ = _
  rw [bools_map]
  show some (PyData.bool _) = _
  rw [List.any_map]
  rfl
end Dl
namespace Dl
open PySem PySem.Spec PyProof.Rows L2 Rt
theorem ev_e2 {g : D → D → Option D} {f1 f2 : EF} {ρ : Rho} {a b d : D} (h1 : f1 ρ = some a) (h2 : f2 ρ = some b) (hg : g a b = some d) : e2 g f1 f2 ρ = some d := by
  unfold e2
  rw [h1]
  show (f2 ρ).bind _ = _
  rw [h2]
  exact hg
theorem ev_itG {g : List D → Option (List D)} {f : Rho → Option (List D)} {ρ : Rho} {ds r : List D} (hf : f ρ = some ds) (hg : g ds = some r) : itG g f ρ = some r := by
  unfold itG
  rw [hf]
  exact hg
theorem ran2_ok {i j : Int} (h1 : -(2 ^ 62) ≤ i) (h2 : i < 2 ^ 62) (h3 : -(2 ^ 62) ≤ j) (h4 : j < 2 ^ 62) (h5 : j - i < 2 ^ 20) : ran2D [.int i, .int j] = some (rgD i (j - i).toNat) := if_pos ⟨h1, h2, h3, h4, h5⟩
theorem ran1_ok {j : Int} (h3 : -(2 ^ 62) ≤ j) (h5 : j < 2 ^ 20) : ran1D [.int j] = some (rgD 0 j.toNat) := if_pos ⟨h3, h5⟩
theorem ev_forC {p : Pat} {body : Rho → Option Out} {x : D} {xs : List D} {ρ ρ1 ρ2 : Rho} (e1 : bindP p x ρ = some ρ1) (e2 : body ρ1 = some (.nx ρ2)) : forGo p body (x :: xs) ρ = forGo p body xs ρ2 := by
  show (bindP p x ρ).bind _ = _
  rw [e1]
  show (body ρ1).bind _ = _
  rw [e2]
  rfl
theorem ev_forR {p : Pat} {body : Rho → Option Out} {x : D} {xs : List D} {ρ ρ1 : Rho} {d : D} (e1 : bindP p x ρ = some ρ1) (e2 : body ρ1 = some (.rt d)) : forGo p body (x :: xs) ρ = some (.rt d) := by
  show (bindP p x ρ).bind _ = _
  rw [e1]
  show (body ρ1).bind _ = _
  rw [e2]
  rfl
theorem ev_forS {it : Rho → Option (List D)} {p : Pat} {body : Rho → Option Out} {ρ : Rho} {items : List D} {o : Option Out} (hit : it ρ = some items) (h : forGo p body items ρ = o) : sFor it p body ρ = o := by
  unfold sFor
  rw [hit]
  exact h
end Dl
namespace Dl
open PySem PySem.Spec PyProof.Rows L2 Rt
def S (x : String) : D := .str (Str.ofString x)
theorem rgD_len (lo : Int) (n : Nat) : (rgD lo n).length = n := by unfold rgD; rw [List.length_map, List.length_range]
theorem rgD_get {lo : Int} {n j : Nat} (h : j < n) : (rgD lo n)[j]? = some (.int (lo + j)) := by
  unfold rgD
  rw [List.getElem?_map, List.getElem?_range h]
  rfl
def LET : List Nat := (Str.ofString "abcdefghijklmnopqrstuvwxyz").cps.toList
def isName : D → Bool
  | .str z => decide (1 ≤ (z.length : Int)) && decide ((z.length : Int) ≤ 8) && z.cps.toList.all fun c => decide (c ∈ LET)
  | _ => false
theorem isName_str {d : D} (h : isName d = true) : ∃ z, d = .str z := by
  cases d <;> try (cases h; done)
  exact ⟨_, rfl⟩
theorem cut1 {α : Type} (xs : List α) : cutD xs (some 1) none = xs.drop 1 := by
  unfold cutD
  rw [HT.sIx_none, show (some (1 : Int)) = some ((1 : Nat) : Int) from rfl, HT.sIx_nat]
  cases xs with
  | nil => rfl
  | cons x r =>
    rw [show min 1 (x :: r).length = 1 by simp]
    exact List.take_of_length_le (by simp)
theorem ev_lcP {i j : Nat} {f : EF} {ρ : Rho} {t : D → D → D} (hi : i < ρ.length) (hj : j < ρ.length) : ∀ (xs : List (D × D)), (∀ x ∈ xs, f ((ρ.set i (some (.dat x.1))).set j (some (.dat x.2))) = some (t x.1 x.2)) → lcGo (.tp (.cons (.nm i) (.cons (.nm j) .nil))) oYes f ρ (xs.map fun x => .tuple [x.1, x.2]) = some (xs.map fun x => t x.1 x.2)
  | [], _ => rfl
  | x :: xs, h => by
    have e1 : bindP (.tp (.cons (.nm i) (.cons (.nm j) .nil))) (.tuple [x.1, x.2]) ρ = some ((ρ.set i (some (.dat x.1))).set j (some (.dat x.2))) := by
      show (bindP (.nm i) x.1 ρ).bind _ = _
      unfold bindP
      rw [if_pos hi]
      show (bindP (.nm j) x.2 _).bind _ = _
      unfold bindP
      rw [if_pos (by rw [List.length_set]; exact hj)]
      rfl
    show (bindP _ (.tuple [x.1, x.2]) ρ).bind _ = _
    rw [e1]
    show (f _).bind _ = _
    rw [h x (by simp)]
    show (lcGo _ _ _ _ _).map _ = _
    rw [ev_lcP hi hj xs fun y hy => h y (by simp [hy])]
    rfl
theorem zp_zip : ∀ (as bs : List D), zpGo as bs = (as.zip bs).map fun x => .tuple [x.1, x.2]
  | [], bs => by cases bs <;> rfl
  | a :: as, [] => rfl
  | a :: as, b :: bs => by
    show PyData.tuple [a, b] :: zpGo as bs = _
    rw [zp_zip as bs]
    rfl
theorem ints_eq : ∀ {ds : List D} {ns : List Int}, intsD ds = some ns → ds = ns.map .int
  | [], _, e => by cases e; rfl
  | .int i :: ds, _, e => by
    obtain ⟨r, er, rfl⟩ := some_map e
    rw [ints_eq er]
    rfl
  | .none :: _, _, e => nomatch e
  | .bool _ :: _, _, e => nomatch e
  | .str _ :: _, _, e => nomatch e
  | .list _ :: _, _, e => nomatch e
  | .tuple _ :: _, _, e => nomatch e
  | .dict _ :: _, _, e => nomatch e
def isTup : D → Bool
  | .tuple _ => true
  | _ => false
theorem isi_tup (d : D) : isTy "tuple" d = some (.bool (isTup d)) := (isi_tuple d).trans (by cases d <;> rfl)
theorem cut_to {α : Type} {xs : List α} {m : Nat} (h : m ≤ xs.length) : cutD xs none (some (m : Int)) = xs.take m := by
  unfold cutD
  rw [HT.sIx_none, HT.sIx_nat, List.drop_zero, Nat.sub_zero, Nat.min_eq_left h]
theorem cut_fr {α : Type} {xs : List α} {m : Nat} (h : m ≤ xs.length) : cutD xs (some (m : Int)) none = xs.drop m := by
  unfold cutD
  rw [HT.sIx_none, HT.sIx_nat, Nat.min_eq_left h, List.take_of_length_le (by rw [List.length_drop]; omega)]
theorem ev_cons {f : EF} {g : Rho → Option (List D)} {ρ : Rho} {d : D} {ds : List D} (h1 : f ρ = some d) (h2 : g ρ = some ds) : aCons f g ρ = some (d :: ds) := by
  unfold aCons
  rw [h1]
  show (g ρ).map _ = _
  rw [h2]
  rfl
theorem isRow_three {d : D} (h : isRow 3 3 d = true) : ∃ a b c, d = .tuple [a, b, c] := by
  cases d <;> try (cases h; done)
  rename_i ds
  have : ds.length = 3 := by
    simp [isRow] at h
    omega
  match ds, this with
  | [a, b, c], _ => exact ⟨a, b, c, rfl⟩
theorem isRow_tup {lo hi : Int} {d : D} (h : isRow lo hi d = true) : ∃ ds, d = .tuple ds := by
  cases d <;> try (cases h; done)
  exact ⟨_, rfl⟩
theorem isFrom_int {lo hi : Int} {d : D} (h : isFrom lo hi d = true) : ∃ i, d = .int i ∧ lo ≤ i ∧ i ≤ hi := by
  cases d <;> try (cases h; done)
  rename_i i
  have h := Bool.and_eq_true_iff.mp (show (decide (lo ≤ i) && decide (i ≤ hi)) = true from h)
  exact ⟨_, rfl, of_decide_eq_true h.1, of_decide_eq_true h.2⟩
theorem isRow_four {d : D} (h : isRow 4 4 d = true) : ∃ a b c e, d = .tuple [a, b, c, e] := by
  cases d <;> try (cases h; done)
  rename_i ds
  have : ds.length = 4 := by
    simp [isRow] at h
    omega
  match ds, this with
  | [a, b, c, e], _ => exact ⟨a, b, c, e, rfl⟩
end Dl
namespace Dl
open PySem PySem.Spec PyProof.Rows L2 Rt
noncomputable def sAl (dp : D → Prop) : List D → Option D := fun ds => match ds with
  | [a, b] => @ite _ (a = b ∧ dp a) (Classical.propDecidable _) (some (.bool true)) none
  | _ => none
/-- data of so many tuples within one another -/
def dpA : Nat → D → Prop
  | 0, _ => False
  | n + 1, .tuple ds => ds.length ≤ 1000 ∧ ∀ d ∈ ds, dpA n d
  | n + 1, .list _ => False
  | n + 1, .dict _ => False
  | n + 1, d => okD d = true
theorem sAl_ok {dp : D → Prop} {a : D} (h : dp a) : sAl dp [a, a] = some (.bool true) := by
  exact @if_pos _ (Classical.propDecidable _) ⟨rfl, h⟩ _ _ _
theorem eqv_refl {d : D} (h : okD d = true) : PyData.eqv d d = true := SeqAt.eqv_refl d (Bool.and_eq_true_iff.mp (okD.parts h).2).1
theorem isiV {T : String} {i : Nat} {ρ : Rho} {d b : D} (h : eVar i ρ = some d) (ht : isTy T d = some b) : e1 (isTy T) (eVar i) ρ = some b := by
  unfold e1
  rw [h]
  exact ht
theorem ev_oOrF {f g : Rho → Option Bool} {ρ : Rho} {b : Bool} (h1 : f ρ = some false) (h2 : g ρ = some b) : oOr f g ρ = some b := (ev_oOr h1).trans h2
theorem ev_oOrT {f g : Rho → Option Bool} {ρ : Rho} (h1 : f ρ = some true) : oOr f g ρ = some true := ev_oOr h1
theorem zp_self (xs : List D) : zpGo xs xs = (xs.map fun x => (x, x)).map fun x => .tuple [x.1, x.2] := by
  rw [zp_zip]
  congr 1
  induction xs with
  | nil => rfl
  | cons x xs ih => rw [List.zip_cons_cons, ih]; rfl
section
variable {P : Program} {w : World} {K : PySem.W.Frag} {mg : Str → Option Value} {base : Heap}
theorem ok_never {k n : Nat} {f : Addr} {fd : FuncData} {ps : List Str} {g : List D → Option D} (hg : ∀ ds, g ds = none) : FnOk P w K mg base CX0 k f fd ps (spD n g) :=
  ⟨fun vs H Q E h => by
    obtain ⟨M, ds, d, _, _, _, e, _⟩ := h
    rw [hg] at e
    exact (nomatch e), fun A outer s H args us vs Q E _ _ _ _ h => by
    obtain ⟨M, ds, d, _, _, _, e, _⟩ := h
    rw [hg] at e
    exact (nomatch e)⟩
theorem ok_alikeS {f : Addr} {fd : FuncData} {k n : Nat} (F : Fun K "_law_alike" "_law_alike" s_law_alike f fd) (m_isinstance : mg "isinstance" = none) (m_tuple : mg "tuple" = none) (m_bool : mg "bool" = none) (m_int : mg "int" = none) (m_str : mg "str" = none) (m_len : mg "len" = none) (m_all : mg "all" = none) (m_zip : mg "zip" = none)
    (C__law_alike : Cl P w K mg base k "_law_alike" ["_law_one_here", "_law_other"] (spD 2 (sAl (dpA n)))) : FnOk P w K mg base CX0 (k + 1) f fd ["_law_one_here", "_law_other"] (spD 2 (sAl (dpA (n + 1)))) := by
  refine okFn F sc_law_alike rfl fun cdv A outer s H E hr => ⟨_, (dSs_cons (dS_if (PW.pt (dW_and (dT_val (dE_isi (dE_var (μ := true) (pv 0)) (pe_bltn (v := .ty "tuple") (by rfl) m_tuple (by decide +kernel) rfl) (by rfl) m_isinstance (by decide +kernel))) (dW_and1 (dT_val (dE_isi (dE_var (μ := true) (pv 1)) (pe_bltn (v := .ty "tuple") (by rfl) m_tuple (by decide +kernel) rfl) (by rfl) m_isinstance (by decide +kernel))))))
    (dSs_one (dS_ret (ps_ret (dE_and (dE_cmp (o_eq hr.units) (dE_callB c_len (by rfl) m_len (by decide +kernel) (dA_cons (dE_var (μ := true) (pv 0)) (dA_nil (μ := true)))) (dE_callB c_len (by rfl) m_len (by decide +kernel) (dA_cons (dE_var (μ := true) (pv 1)) (dA_nil (μ := true)))) (nomark _)) (dE_one (dE_callB (c_all rfl) (by rfl) m_all (by decide +kernel) (dA_cons (dE_lc (K := K) (p := (.tp (.cons (.nm 2) (.cons (.nm 3) .nil)))) (pe_lc (own := [("_law_a", 2), ("_law_b", 3)]) (g := gP K (.tp (.cons (.nm 2) (.cons (.nm 3) .nil)))) rfl sc_law_alike.nd (dI_zip (by rfl) m_zip (dA_cons (dE_var (μ := true) (pv 0)) (dA_cons (dE_var (μ := true) (pv 1)) (dA_nil (μ := true))))) (blkOk_by (own := [("_law_a", 2), ("_law_b", 3)]) (N := ["_law_one_here", "_law_other", "_law_a", "_law_b"]) (sc := defScope s_law_alike) (by decide +kernel)) (fun _ _ _ _ _ => (pg_tup (by rfl) (pgs_cons (pg_name (i := 2) sc_law_alike.nd rfl (.inl rfl)) (pgs_cons (pg_name (i := 3) sc_law_alike.nd rfl (.inl rfl)) pgs_nil)))) (fun _ _ _ _ _ => dTs_nil) (fun _ _ _ _ _ => (dE_cl C__law_alike (hr.mono (by omega)) (by rfl) (dA_cons (dE_var (μ := true) (pv 2)) (dA_cons (dE_var (μ := true) (pv 3)) (dA_nil (μ := true)))))))) (dA_nil (μ := true)))))))))
    dSs_nil)
  (dSs_cons (dS_if (PW.pt (dW_or (dT_val (dE_isi (dE_var (μ := true) (pv 0)) (pe_bltn (v := .ty "bool") (by rfl) m_bool (by decide +kernel) rfl) (by rfl) m_isinstance (by decide +kernel))) (dW_or1 (dT_val (dE_isi (dE_var (μ := true) (pv 1)) (pe_bltn (v := .ty "bool") (by rfl) m_bool (by decide +kernel) rfl) (by rfl) m_isinstance (by decide +kernel))))))
    (dSs_one (dS_ret (ps_ret (dE_and (dE_isi (dE_var (μ := true) (pv 0)) (pe_bltn (v := .ty "bool") (by rfl) m_bool (by decide +kernel) rfl) (by rfl) m_isinstance (by decide +kernel)) (dE_and (dE_isi (dE_var (μ := true) (pv 1)) (pe_bltn (v := .ty "bool") (by rfl) m_bool (by decide +kernel) rfl) (by rfl) m_isinstance (by decide +kernel)) (dE_one (dE_cmp (o_eq hr.units) (dE_var (μ := true) (pv 0)) (dE_var (μ := true) (pv 1)) (nomark _))))))))
    dSs_nil)
  (dSs_cons (dS_if (dT_cmp (o_ne hr.units) (dE_isi (dE_var (μ := true) (pv 0)) (pe_bltn (v := .ty "int") (by rfl) m_int (by decide +kernel) rfl) (by rfl) m_isinstance (by decide +kernel)) (dE_isi (dE_var (μ := true) (pv 1)) (pe_bltn (v := .ty "int") (by rfl) m_int (by decide +kernel) rfl) (by rfl) m_isinstance (by decide +kernel)) (nomark _))
    (dSs_one (dS_ret (ps_ret (dE_c (μ := true) pe_bl))))
    dSs_nil)
  (dSs_one (dS_ret (ps_ret (dE_and (dE_cmp (o_eq hr.units) (dE_isi (dE_var (μ := true) (pv 0)) (pe_bltn (v := .ty "str") (by rfl) m_str (by decide +kernel) rfl) (by rfl) m_isinstance (by decide +kernel)) (dE_isi (dE_var (μ := true) (pv 1)) (pe_bltn (v := .ty "str") (by rfl) m_str (by decide +kernel) rfl) (by rfl) m_isinstance (by decide +kernel)) (nomark _)) (dE_one (dE_cmp (o_eq hr.units) (dE_var (μ := true) (pv 0)) (dE_var (μ := true) (pv 1)) (nomark _)))))))))), fun ds d l e => ?_⟩
  match ds, e with
  | [a, b], e =>
    have e : @ite _ (a = b ∧ dpA (n + 1) a) (Classical.propDecidable _) (some (PyData.bool true)) none = some d := e
    by_cases hc : a = b ∧ dpA (n + 1) a
    · rw [if_pos hc] at e
      cases e
      obtain ⟨rfl, dp⟩ := hc
      refine ⟨.rt (.bool true), ?_, rfl⟩
      refine (ev_if (b := isTup a) ((ev_oAnd (ev_oB (isi_tup a))).trans (by cases h : isTup a <;> first | rfl | exact (ev_oB (isi_tup a)).trans (by rw [h])))).trans ?_
      cases h : isTup a with
      | true =>
        cases a <;> try (cases h; done)
        rename_i xs
        obtain ⟨xl, dp⟩ : xs.length ≤ 1000 ∧ ∀ d ∈ xs, dpA n d := dp
        refine ev_retS (ev_and (b := true) ((ev_e2 (a := .int xs.length) (b := .int xs.length) rfl rfl (eq_ok rfl rfl)).trans (by show some (PyData.bool ((xs.length : Int) == xs.length)) = _; rw [beq_self_eq_true])) (fun _ => ?_) (fun z => by cases z))
        refine (ev_all (xs := xs.map fun x => (x, x)) (t := fun _ => true) (items := zpGo xs xs) rfl ?_).trans (by simp)
        rw [zp_self]
        exact ev_lcP (i := 2) (j := 3) (t := fun _ _ => .bool true) (by show 2 < 4; decide) (by show 3 < 4; decide) _ fun x hx => by
          obtain ⟨y, hy, rfl⟩ := List.mem_map.mp hx
          exact ev_call rfl rfl (sAl_ok (dp y hy))
      | false =>
        refine (show _ = _ from ev_nil).trans ?_
        have ok : okD a = true := by
          cases a <;> first | exact dp | (cases h; done) | exact (dp : False).elim
        have er := eqv_refl ok
        have eqa : ∀ ρ, eVar 0 ρ = some a → eVar 1 ρ = some a → e2 eqD (eVar 0) (eVar 1) ρ = some (.bool true) := fun ρ h1 h2 => ev_e2 h1 h2 ((eq_ok ok ok).trans (by rw [er]))
        cases a with
        | bool b =>
          refine (ev_if (b := true) (ev_oOrT (ev_oB (isiV rfl (isi_bool _))))).trans ?_
          exact ev_retS (ev_and (b := true) (isiV rfl (isi_bool _)) (fun _ => ev_and (b := true) (isiV rfl (isi_bool _)) (fun _ => eqa _ rfl rfl) (fun z => by cases z)) (fun z => by cases z))
        | tuple xs => cases h
        | list xs => exact (dp : False).elim
        | dict xs => exact (dp : False).elim
        | none =>
          refine (ev_if (b := false) (ev_oOrF (ev_oB (isiV rfl (isi_bool _))) (ev_oB (isiV rfl (isi_bool _))))).trans ?_
          refine (show _ = _ from ev_nil).trans ?_
          refine (ev_if (b := false) (ev_oB (ev_e2 (a := .bool false) (b := .bool false) (isiV rfl (isi_int _)) (isiV rfl (isi_int _)) rfl))).trans ?_
          refine (show _ = _ from ev_nil).trans ?_
          exact ev_ret (ev_and (b := true) (ev_e2 (a := .bool false) (b := .bool false) (isiV rfl (isi_str _)) (isiV rfl (isi_str _)) rfl) (fun _ => eqa _ rfl rfl) (fun z => by cases z))
        | int i =>
          refine (ev_if (b := false) (ev_oOrF (ev_oB (isiV rfl (isi_bool _))) (ev_oB (isiV rfl (isi_bool _))))).trans ?_
          refine (show _ = _ from ev_nil).trans ?_
          refine (ev_if (b := false) (ev_oB (ev_e2 (a := .bool true) (b := .bool true) (isiV rfl (isi_int _)) (isiV rfl (isi_int _)) rfl))).trans ?_
          refine (show _ = _ from ev_nil).trans ?_
          exact ev_ret (ev_and (b := true) (ev_e2 (a := .bool false) (b := .bool false) (isiV rfl (isi_str _)) (isiV rfl (isi_str _)) rfl) (fun _ => eqa _ rfl rfl) (fun z => by cases z))
        | str i =>
          refine (ev_if (b := false) (ev_oOrF (ev_oB (isiV rfl (isi_bool _))) (ev_oB (isiV rfl (isi_bool _))))).trans ?_
          refine (show _ = _ from ev_nil).trans ?_
          refine (ev_if (b := false) (ev_oB (ev_e2 (a := .bool false) (b := .bool false) (isiV rfl (isi_int _)) (isiV rfl (isi_int _)) rfl))).trans ?_
          refine (show _ = _ from ev_nil).trans ?_
          exact ev_ret (ev_and (b := true) (ev_e2 (a := .bool true) (b := .bool true) (isiV rfl (isi_str _)) (isiV rfl (isi_str _)) rfl) (fun _ => eqa _ rfl rfl) (fun z => by cases z))
    · rw [if_neg hc] at e
      cases e
end
end Dl
namespace Dl
open PySem PySem.Spec PyProof.Rows L2 Rt
/-- some thing of such a sort, by at most so many draws -/
def gAny (c : Nat) (pre : List D → Prop) (post : List D → D → Prop) : GF := ⟨fun ds n Q => pre ds ∧ c ≤ n ∧ ∀ d n', post ds d → n ≤ n' + c → Q d n', fun h ⟨a, b, q⟩ => ⟨a, b, fun d n' p l => h _ _ (q d n' p l)⟩⟩
def gNext : GF := gAny 1 (fun ds => ∃ b : Int, ds = [.int b] ∧ 0 < b ∧ b < 2 ^ 60) (fun ds d => ∃ b v : Int, ds = [.int b] ∧ d = .int v ∧ 0 ≤ v ∧ v < b)
def gOne : GF := gAny 1 (fun ds => ∃ w items, ds = [w] ∧ seqD w = some items ∧ 0 < items.length ∧ items.length ≤ 1000) (fun ds d => ∃ w items, ds = [w] ∧ seqD w = some items ∧ d ∈ items)
theorem kp_own {g : Gd} {H H' : Hp} (k : Kp g H H') : KpM g.own H H' := fun p o n e => k p o (fun z => n (.inl z)) (fun z => n (.inr (.inr z))) e
section
variable {P : Program} {w : World} {K : PySem.W.Frag} {mg : Str → Option Value} {base : Heap}
theorem ok_nextN {f : Addr} {fd : FuncData} {k : Nat} {ps : List Str} (F : FnOk P w K mg base CX0 k f fd ps spNext) : FnOk P w K mg base CX0 k f fd ps (spN 1 gNext) := F.wk fun vs H Q E h => by
  obtain ⟨g, M, ws, ds, n, rfl, pl, dm, iv, r, l, ⟨b, rfl, b0, b1⟩, hn, q⟩ := h
  match ws, r with
  | [_], .cons (.int _) .nil =>
    exact ⟨g, n, b, rfl, iv, hn, b0, b1, fun v H' v0 v1 F' K' => q (.int v) (n - 1) ⟨b, v, rfl, rfl, v0, v1⟩ (by omega) (.int v) H' (kp_own K') F' (.int v)⟩
theorem ok_oneN {f : Addr} {fd : FuncData} (F : Fun K "_law_one" "_law_one" s_law_one f fd) (m_len : mg "len" = none) (C__law_next : Cl P w K mg base 1 "_law_next" ["_law_drawn", "_law_below"] (spN 1 gNext)) : FnOk P w K mg base CX0 2 f fd ["_law_drawn", "_law_wares"] (spN 1 gOne) := by
  refine okFnN F sc_law_one rfl fun cdv A outer s H E hr => ⟨_, (nSs_one (nS_ret (ps_ret (nE_ix (nE_pure (dE_var (μ := true) (pv 1))) (nE_draw C__law_next (hr.mono (by omega)) (by rfl) (pv 0) (nA_cons (nE_pure (dE_callB c_len (by rfl) m_len (by decide +kernel) (dA_cons (dE_var (μ := true) (pv 1)) (dA_nil (μ := true))))) nA_nil)))))), fun ds b Q l h => ?_⟩
  obtain ⟨⟨w, items, rfl, es, l0, l1⟩, hb, q⟩ := h
  have el : lenD [w] = some (.int items.length) := by
    cases w <;> cases es <;> rfl
  refine ⟨w, rfl, rfl, .int items.length, el, [.int items.length], rfl, rfl, ⟨_, rfl, by omega, by omega⟩, hb, fun d n' p hn => ?_⟩
  obtain ⟨b', v, e1, rfl, v0, v1⟩ := p
  cases e1
  obtain ⟨x, hx, xm, _⟩ := atI_in (xs := items) v0 v1
  refine ⟨x, ?_, q x n' ⟨w, items, rfl, es, xm⟩ hn⟩
  cases w <;> cases es <;> exact hx
end
end Dl
namespace Dl
open PySem PySem.Spec PyProof.Rows L2 Rt
theorem wNext {i : Nat} {e : EF} {ρ : Rho} {b : Nat} {Q : D → Nat → Prop} {m : Int} (hp : ρ[i]? = some (some .pool)) (he : e (shutR true ρ) = some (.int m)) (h0 : 0 < m) (h1 : m < 2 ^ 60) (hb : 1 ≤ b) (q : ∀ v n', 0 ≤ v → v < m → b ≤ n' + 1 → Q (.int v) n') : (wCall i 1 gNext (wCons (wP e) wNil)).w ρ b Q :=
  ⟨hp, .int m, he, _, rfl, rfl, ⟨m, rfl, h0, h1⟩, hb, fun d n' ⟨b', v, e1, e2, v0, v1⟩ hn => by
    cases e1
    subst e2
    exact q v n' v0 v1 hn⟩
theorem wOne {i : Nat} {e : EF} {ρ : Rho} {b : Nat} {Q : D → Nat → Prop} {x : D} {items : List D} (hp : ρ[i]? = some (some .pool)) (he : e (shutR true ρ) = some x) (hs : seqD x = some items) (h0 : 0 < items.length) (h1 : items.length ≤ 1000) (hb : 1 ≤ b) (q : ∀ d n', d ∈ items → b ≤ n' + 1 → Q d n') : (wCall i 1 gOne (wCons (wP e) wNil)).w ρ b Q :=
  ⟨hp, x, he, _, rfl, rfl, ⟨x, items, rfl, hs, h0, h1⟩, hb, fun d n' ⟨w', it', e1, e2, m⟩ hn => by
    cases e1
    rw [hs] at e2
    cases e2
    exact q d n' m hn⟩
/-- kinds as they are drawn -/
def Kds (ks : List D) : Prop := 1 ≤ ks.length ∧ ks.length ≤ 4 ∧ ∀ k ∈ ks, isName k = true
def SrcP (n : Int) (ks : List D) (d : D) : Prop := ∃ k a pl s m, d = .tuple [k, .int a, .int pl, .int s, .int m] ∧ k ∈ ks ∧ 0 ≤ a ∧ a ≤ 20 ∧ 0 ≤ pl ∧ pl < n ∧ 0 ≤ s ∧ s ≤ 1000000 ∧ 1 ≤ m ∧ m ≤ 9
def PrtP (ks : List D) (d : D) : Prop := ∃ k l h, d = .tuple [k, .int l, .int h] ∧ k ∈ ks ∧ 0 ≤ l ∧ l ≤ h ∧ h ≤ 20
def gSource : GF := gAny 9 (fun ds => ∃ n ks old, ds = [.int n, .tuple ks, .int old] ∧ Kds ks ∧ 1 ≤ n ∧ n ≤ 6 ∧ 0 ≤ old ∧ old ≤ 20) (fun ds d => ∃ n ks old, ds = [.int n, .tuple ks, .int old] ∧ SrcP n ks d)
def gPart : GF := gAny 6 (fun ds => ∃ ks old, ds = [.tuple ks, .int old] ∧ Kds ks ∧ 0 ≤ old ∧ old ≤ 20) (fun ds d => ∃ ks old, ds = [.tuple ks, .int old] ∧ PrtP ks d)
theorem lst4 {α : Type} {a b c d : α} {i : Int} (h0 : 0 ≤ i) (h1 : i < 4) : ∃ x, L2.atI [a, b, c, d] i = some x ∧ (x = a ∨ x = b ∨ x = c ∨ x = d) := by
  obtain ⟨x, e, m, _⟩ := atI_in (xs := [a, b, c, d]) h0 h1
  exact ⟨x, e, by simpa using m⟩
theorem lst3 {α : Type} {a b c : α} {i : Int} (h0 : 0 ≤ i) (h1 : i < 3) : ∃ x, L2.atI [a, b, c] i = some x ∧ (x = a ∨ x = b ∨ x = c) := by
  obtain ⟨x, e, m, _⟩ := atI_in (xs := [a, b, c]) h0 h1
  exact ⟨x, e, by simpa using m⟩
section
variable {P : Program} {w : World} {K : PySem.W.Frag} {mg : Str → Option Value} {base : Heap}
theorem ok_source {f : Addr} {fd : FuncData} (F : Fun K "_law_source" "_law_source" s_law_source f fd) (C__law_next : Cl P w K mg base 1 "_law_next" ["_law_drawn", "_law_below"] (spN 1 gNext)) (C__law_one : Cl P w K mg base 2 "_law_one" ["_law_drawn", "_law_wares"] (spN 1 gOne)) : FnOk P w K mg base CX0 3 f fd ["_law_drawn", "_law_size", "_law_kinds_here", "_law_old"] (spN 3 gSource) := by
  refine okFnN F sc_law_source rfl fun cdv A outer s H E hr => ⟨_, (nSs_cons (nS_asg (K := K) (p := .nm 4) (ps_set (i := 4) sc_law_source.nd rfl (.inl rfl) (nE_ix (nE_lst (nA_cons (nE_pure (dE_c (μ := true) pe_int)) (nA_cons (nE_draw C__law_next (hr.mono (by omega)) (by rfl) (pv 0) (nA_cons (nE_pure (dE_c (μ := true) pe_int)) nA_nil)) (nA_cons (nE_draw C__law_next (hr.mono (by omega)) (by rfl) (pv 0) (nA_cons (nE_pure (dE_c (μ := true) pe_int)) nA_nil)) (nA_cons (nE_op o_sub (nE_pure (dE_op o_pow (dE_c (μ := true) pe_int) (dE_c (μ := true) pe_int))) (nE_draw C__law_next (hr.mono (by omega)) (by rfl) (pv 0) (nA_cons (nE_pure (dE_c (μ := true) pe_int)) nA_nil))) nA_nil))))) (nE_draw C__law_next (hr.mono (by omega)) (by rfl) (pv 0) (nA_cons (nE_pure (dE_c (μ := true) pe_int)) nA_nil)))))
  (nSs_cons (nS_asg (K := K) (p := .nm 5) (ps_set (i := 5) sc_law_source.nd rfl (.inl rfl) (nE_op o_mulX (nE_draw C__law_next (hr.mono (by omega)) (by rfl) (pv 0) (nA_cons (nE_pure (dE_op o_add (dE_var (μ := true) (pv 3)) (dE_c (μ := true) pe_int))) nA_nil)) (nE_draw C__law_next (hr.mono (by omega)) (by rfl) (pv 0) (nA_cons (nE_pure (dE_c (μ := true) pe_int)) nA_nil)))))
  (nSs_cons (nS_par (ps_par (i := 6) (j := 7) (by rfl) sc_law_source.nd rfl rfl (by decide) rfl rfl (nA_cons (nE_draw C__law_one (hr.mono (by omega)) (by rfl) (pv 0) (nA_cons (nE_pure (dE_var (μ := true) (pv 2))) nA_nil)) (nA_cons (nE_draw C__law_next (hr.mono (by omega)) (by rfl) (pv 0) (nA_cons (nE_pure (dE_var (μ := true) (pv 1))) nA_nil)) nA_nil)) (by rfl)))
  (nSs_one (nS_ret (ps_ret (nE_tup (nA_cons (nE_pure (dE_var (μ := true) (pv 6))) (nA_cons (nE_pure (dE_var (μ := true) (pv 5))) (nA_cons (nE_pure (dE_var (μ := true) (pv 7))) (nA_cons (nE_pure (dE_var (μ := true) (pv 4))) (nA_cons (nE_op o_add (nE_pure (dE_c (μ := true) pe_int)) (nE_draw C__law_next (hr.mono (by omega)) (by rfl) (pv 0) (nA_cons (nE_pure (dE_c (μ := true) pe_int)) nA_nil))) nA_nil)))))))))))), fun ds b Q l h => ?_⟩
  obtain ⟨⟨n, ks, old, rfl, hk, n1, n6, o0, o20⟩, hb, q⟩ := h
  have hk1 := hk.1
  have hk2 := hk.2.1
  refine ⟨.int 0, rfl, wNext (m := 12) rfl rfl (by decide) (by decide) (by omega) fun v1 b1 v10 v11 h1 => wNext (m := 40) rfl rfl (by decide) (by decide) (by omega) fun v2 b2 v20 v21 h2 => ⟨.int 1000000, rfl, wNext (m := 30) rfl rfl (by decide) (by decide) (by omega) fun v3 b3 v30 v31 h3 => ⟨_, rfl, _, rfl, _, rfl, _, rfl, _, rfl, _, rfl, ?_⟩⟩⟩
  refine wNext (m := 4) rfl rfl (by decide) (by decide) (by omega) fun v4 b4 v40 v41 h4 => ?_
  obtain ⟨x, ex, xs⟩ := lst4 (a := PyData.int 0) (b := .int v1) (c := .int v2) (d := .int (1000000 - v3)) v40 v41
  obtain ⟨sn, rfl, s0, s1⟩ : ∃ sn : Int, x = .int sn ∧ 0 ≤ sn ∧ sn ≤ 1000000 := by
    rcases xs with rfl | rfl | rfl | rfl
    · exact ⟨_, rfl, by decide, by decide⟩
    · exact ⟨_, rfl, by omega, by omega⟩
    · exact ⟨_, rfl, by omega, by omega⟩
    · exact ⟨_, rfl, by omega, by omega⟩
  refine ⟨_, ex, [some .pool, some (.dat (.int n)), some (.dat (.tuple ks)), some (.dat (.int old)), some (.dat (.int sn)), none, none, none], rfl, ?_⟩
  refine wNext (m := old + 1) rfl rfl (by omega) (by omega) (by omega) fun v5 b5 v50 v51 h5 => wNext (m := 2) rfl rfl (by decide) (by decide) (by omega) fun v6 b6 v60 v61 h6 => ?_
  have hm0 : 0 ≤ v5 * v6 := Int.mul_nonneg v50 v60
  have hm1 : v5 * v6 ≤ 20 := by
    have : v6 = 0 ∨ v6 = 1 := by omega
    rcases this with rfl | rfl <;> omega
  refine ⟨.int (v5 * v6), ?_, [some .pool, some (.dat (.int n)), some (.dat (.tuple ks)), some (.dat (.int old)), some (.dat (.int sn)), some (.dat (.int (v5 * v6))), none, none], rfl, ?_⟩
  · exact if_pos (Or.inl ⟨by omega, by omega⟩)
  refine wOne (items := ks) rfl rfl rfl hk1 (by omega) (by omega) fun k b7 km h7 => wNext (m := n) rfl rfl (by omega) (by omega) (by omega) fun v8 b8 v80 v81 h8 => ⟨_, rfl, _, rfl, _, _, rfl, ?_⟩
  refine ⟨_, rfl, _, rfl, _, rfl, _, rfl, .int 1, rfl, wNext (m := 9) rfl rfl (by decide) (by decide) (by omega) fun v9 b9 v90 v91 h9 => ⟨_, rfl, _, rfl, _, rfl, _, rfl, _, rfl, _, rfl, _, rfl, ?_⟩⟩
  exact q _ b9 ⟨n, ks, old, rfl, k, v5 * v6, v8, sn, 1 + v9, rfl, km, hm0, hm1, v80, v81, s0, s1, by omega, by omega⟩ (by omega)
theorem ok_part {f : Addr} {fd : FuncData} (F : Fun K "_law_part" "_law_part" s_law_part f fd) (m_min : mg "min" = none) (C__law_next : Cl P w K mg base 1 "_law_next" ["_law_drawn", "_law_below"] (spN 1 gNext)) (C__law_one : Cl P w K mg base 2 "_law_one" ["_law_drawn", "_law_wares"] (spN 1 gOne)) : FnOk P w K mg base CX0 3 f fd ["_law_drawn", "_law_kinds_here", "_law_old"] (spN 2 gPart) := by
  refine okFnN F sc_law_part rfl fun cdv A outer s H E hr => ⟨_, (nSs_cons (nS_asg (K := K) (p := .nm 3) (ps_set (i := 3) sc_law_part.nd rfl (.inl rfl) (nE_draw C__law_next (hr.mono (by omega)) (by rfl) (pv 0) (nA_cons (nE_pure (dE_op o_add (dE_var (μ := true) (pv 2)) (dE_c (μ := true) pe_int))) nA_nil))))
  (nSs_cons (nS_asg (K := K) (p := .nm 4) (ps_set (i := 4) sc_law_part.nd rfl (.inl rfl) (nE_ix (nE_lst (nA_cons (nE_pure (dE_var (μ := true) (pv 3))) (nA_cons (nE_callB (c_min2 rfl) (by rfl) m_min (by decide +kernel) (nA_cons (nE_pure (dE_var (μ := true) (pv 2))) (nA_cons (nE_op o_add (nE_pure (dE_var (μ := true) (pv 3))) (nE_draw C__law_next (hr.mono (by omega)) (by rfl) (pv 0) (nA_cons (nE_pure (dE_c (μ := true) pe_int)) nA_nil))) nA_nil))) (nA_cons (nE_pure (dE_var (μ := true) (pv 2))) nA_nil)))) (nE_draw C__law_next (hr.mono (by omega)) (by rfl) (pv 0) (nA_cons (nE_pure (dE_c (μ := true) pe_int)) nA_nil)))))
  (nSs_one (nS_ret (ps_ret (nE_tup (nA_cons (nE_draw C__law_one (hr.mono (by omega)) (by rfl) (pv 0) (nA_cons (nE_pure (dE_var (μ := true) (pv 1))) nA_nil)) (nA_cons (nE_ix (nE_pure (dE_lst (dA_cons (dE_var (μ := true) (pv 3)) (dA_cons (dE_var (μ := true) (pv 3)) (dA_cons (dE_c (μ := true) pe_int) (dA_nil (μ := true))))))) (nE_draw C__law_next (hr.mono (by omega)) (by rfl) (pv 0) (nA_cons (nE_pure (dE_c (μ := true) pe_int)) nA_nil))) (nA_cons (nE_pure (dE_var (μ := true) (pv 4))) nA_nil))))))))), fun ds b Q l h => ?_⟩
  obtain ⟨⟨ks, old, rfl, hk, o0, o20⟩, hb, q⟩ := h
  have hk1 := hk.1
  have hk2 := hk.2.1
  refine wNext (m := old + 1) rfl rfl (by omega) (by omega) (by omega) fun v1 b1 v10 v11 h1 => ⟨[some .pool, some (.dat (.tuple ks)), some (.dat (.int old)), some (.dat (.int v1)), none], rfl, ?_⟩
  refine ⟨.int v1, rfl, .int old, rfl, .int v1, rfl, wNext (m := 5) rfl rfl (by decide) (by decide) (by omega) fun v2 b2 v20 v21 h2 => ⟨_, rfl, _, rfl, _, rfl, _, rfl, .int old, rfl, _, rfl, _, rfl, _, rfl, _, rfl, ?_⟩⟩
  refine wNext (m := 3) rfl rfl (by decide) (by decide) (by omega) fun v3 b3 v30 v31 h3 => ?_
  obtain ⟨x, ex, xs⟩ := lst3 (a := PyData.int v1) (b := .int (if v1 + v2 < old then v1 + v2 else old)) (c := .int old) v30 v31
  obtain ⟨gr, rfl, g0, g1⟩ : ∃ gr : Int, x = .int gr ∧ v1 ≤ gr ∧ gr ≤ 20 := by
    rcases xs with rfl | rfl | rfl
    · exact ⟨_, rfl, by omega, by omega⟩
    · exact ⟨_, rfl, by split <;> omega, by split <;> omega⟩
    · exact ⟨_, rfl, by omega, by omega⟩
  refine ⟨_, ex, [some .pool, some (.dat (.tuple ks)), some (.dat (.int old)), some (.dat (.int v1)), some (.dat (.int gr))], rfl, ?_⟩
  refine wOne (items := ks) rfl rfl rfl hk1 (by omega) (by omega) fun k b4 km h4 => ⟨_, rfl, wNext (m := 3) rfl rfl (by decide) (by decide) (by omega) fun v5 b5 v50 v51 h5 => ?_⟩
  obtain ⟨y, ey, ys⟩ := lst3 (a := PyData.int v1) (b := .int v1) (c := .int 0) v50 v51
  obtain ⟨lo, rfl, l0, l1⟩ : ∃ lo : Int, y = .int lo ∧ 0 ≤ lo ∧ lo ≤ v1 := by
    rcases ys with rfl | rfl | rfl
    · exact ⟨_, rfl, by omega, by omega⟩
    · exact ⟨_, rfl, by omega, by omega⟩
    · exact ⟨_, rfl, by omega, by omega⟩
  refine ⟨_, ey, _, rfl, _, rfl, _, rfl, _, rfl, _, rfl, ?_⟩
  exact q _ b5 ⟨ks, old, rfl, k, lo, gr, rfl, km, l0, by omega, g1⟩ (by omega)
end
/-- a comprehension each of whose things costs so much -/
theorem lcN_all {p : Pat} {f : WP D} {ρ : Rho} (c : Nat) (Pt : D → Prop) : ∀ (items : List D) (b : Nat) (Q : List D → Nat → Prop), items.length * c ≤ b →
    (∀ x ∈ items, ∀ b Q, c ≤ b → (∀ d n', Pt d → b ≤ n' + c → Q d n') → ∃ ρ1, bindP p x ρ = some ρ1 ∧ f.w ρ1 b Q) → (∀ r b', r.length = items.length → (∀ d ∈ r, Pt d) → b ≤ b' + items.length * c → Q r b') → lcN p wYes f ρ items b Q
  | [], b, Q, _, _, q => q [] b rfl (fun d m => nomatch m) (by simp)
  | x :: xs, b, Q, hb, hf, q => by
    have e : (x :: xs).length * c = xs.length * c + c := by rw [List.length_cons, Nat.add_mul, Nat.one_mul]
    rw [e] at hb q
    obtain ⟨ρ1, e1, w1⟩ := hf x (by simp) b (fun d b2 => lcN p wYes f ρ xs b2 fun r b3 => Q (d :: r) b3) (by omega) fun d n' pd hn => lcN_all c Pt xs n' _ (by omega) (fun y hy => hf y (by simp [hy])) fun r b' hl hr hb' => q (d :: r) b' (by rw [List.length_cons, List.length_cons, hl]) (fun z hz => by
      rcases List.mem_cons.mp hz with e | e
      · rw [e]; exact pd
      · exact hr z e) (by omega)
    exact ⟨ρ1, e1, w1⟩
/-- a comprehension that keeps some of its items -/
theorem lcN_some {i : Nat} {c : WP Bool} {ρ : Rho} (hi : i < ρ.length) (cst : Nat) : ∀ (items : List D) (b : Nat) (Q : List D → Nat → Prop), items.length * cst ≤ b →
    (∀ x ∈ items, ∀ b Q, cst ≤ b → (∀ k n', b ≤ n' + cst → Q k n') → c.w (ρ.set i (some (.dat x))) b Q) → (∀ r b', r.Sublist items → b ≤ b' + items.length * cst → Q r b') → (∀ x, (shutR true (ρ.set i (some (.dat x))))[i]? = some (some (.dat x))) → lcN (.nm i) c (wP (eVar i)) ρ items b Q
  | [], b, Q, _, _, q, _ => q [] b (List.Sublist.refl _) (by simp)
  | x :: xs, b, Q, hb, hc, q, hv => by
    have e : (x :: xs).length * cst = xs.length * cst + cst := by rw [List.length_cons, Nat.add_mul, Nat.one_mul]
    rw [e] at hb q
    refine ⟨ρ.set i (some (.dat x)), by unfold bindP; rw [if_pos hi], hc x (by simp) b _ (by omega) fun k n' hn => ?_⟩
    cases k with
    | true =>
      refine ⟨x, by unfold eVar; rw [hv x], ?_⟩
      exact lcN_some hi cst xs n' _ (by omega) (fun y hy => hc y (by simp [hy])) (fun r b' hs hb' => q _ b' (hs.cons₂ x) (by omega)) hv
    | false => exact lcN_some hi cst xs n' _ (by omega) (fun y hy => hc y (by simp [hy])) (fun r b' hs hb' => q _ b' (hs.cons x) (by omega)) hv
def WayP (n : Int) (ks : List D) (d : D) : Prop := ∃ (k : D) (ps : List D) (kp : D) (hs : List Int) (wt : Int), d = .tuple [k, .tuple ps, kp, .tuple (hs.map PyData.int), .int wt] ∧ k ∈ ks ∧ 1 ≤ ps.length ∧ ps.length ≤ 3 ∧ (∀ p ∈ ps, PrtP ks p) ∧ (kp = S "oldest" ∨ kp = S "youngest") ∧ hs.Sublist ((List.range n.toNat).map fun (i : Nat) => (0 : Int) + i) ∧ 1 ≤ wt ∧ wt ≤ 6
def gWay : GF := gAny 40 (fun ds => ∃ n ks old, ds = [.int n, .tuple ks, .int old] ∧ Kds ks ∧ 1 ≤ n ∧ n ≤ 6 ∧ 0 ≤ old ∧ old ≤ 20) (fun ds d => ∃ n ks old, ds = [.int n, .tuple ks, .int old] ∧ WayP n ks d)
section
variable {P : Program} {w : World} {K : PySem.W.Frag} {mg : Str → Option Value} {base : Heap}
theorem ok_way {f : Addr} {fd : FuncData} (F : Fun K "_law_way" "_law_way" s_law_way f fd) (m_range : mg "range" = none) (m_tuple : mg "tuple" = none) (C__law_next : Cl P w K mg base 1 "_law_next" ["_law_drawn", "_law_below"] (spN 1 gNext)) (C__law_one : Cl P w K mg base 2 "_law_one" ["_law_drawn", "_law_wares"] (spN 1 gOne)) (C__law_part : Cl P w K mg base 3 "_law_part" ["_law_drawn", "_law_kinds_here", "_law_old"] (spN 2 gPart)) : FnOk P w K mg base CX0 4 f fd ["_law_drawn", "_law_size", "_law_kinds_here", "_law_old"] (spN 3 gWay) := by
  refine okFnN F sc_law_way rfl fun cdv A outer s H E hr => ⟨_, (nSs_cons (nS_asg (K := K) (p := .nm 4) (ps_set (i := 4) sc_law_way.nd rfl (.inl rfl) (nE_callTy c_tuple (by rfl) m_tuple (by decide +kernel) (nA_cons (nE_lc (K := K) (p := (.nm 7)) (pe_lc (own := [("_law_k", 7)]) (g := gP K (.nm 7)) rfl sc_law_way.nd (nI_ran1 (by rfl) m_range (nA_cons (nE_ix (nE_pure (dE_lst (dA_cons (dE_c (μ := true) pe_int) (dA_cons (dE_c (μ := true) pe_int) (dA_cons (dE_c (μ := true) pe_int) (dA_cons (dE_c (μ := true) pe_int) (dA_nil (μ := true)))))))) (nE_draw C__law_next (hr.mono (by omega)) (by rfl) (pv 0) (nA_cons (nE_pure (dE_c (μ := true) pe_int)) nA_nil))) nA_nil)) (blkOk_by (own := [("_law_k", 7)]) (N := ["_law_drawn", "_law_size", "_law_kinds_here", "_law_old", "_law_parts_here", "_law_hours", "_law_keeps", "_law_k", "_law_place"]) (sc := defScope s_law_way) (by decide +kernel)) (fun _ _ _ _ _ => (pg_name (i := 7) sc_law_way.nd rfl (.inl rfl))) (fun _ _ _ _ _ => nTs_nil) (fun _ _ _ _ _ => (nE_draw C__law_part (hr.mono (by omega)) (by rfl) (pv 0) (nA_cons (nE_pure (dE_var (μ := true) (pv 2))) (nA_cons (nE_pure (dE_var (μ := true) (pv 3))) nA_nil)))))) nA_nil))))
  (nSs_cons (nS_asg (K := K) (p := .nm 5) (ps_set (i := 5) sc_law_way.nd rfl (.inl rfl) (nE_callTy c_tuple (by rfl) m_tuple (by decide +kernel) (nA_cons (nE_lc (K := K) (p := (.nm 8)) (pe_lc (own := [("_law_place", 8)]) (g := gP K (.nm 8)) rfl sc_law_way.nd (nI_pure (dI_ran1 (by rfl) m_range (dA_cons (dE_var (μ := true) (pv 1)) (dA_nil (μ := true))))) (blkOk_by (own := [("_law_place", 8)]) (N := ["_law_drawn", "_law_size", "_law_kinds_here", "_law_old", "_law_parts_here", "_law_hours", "_law_keeps", "_law_k", "_law_place"]) (sc := defScope s_law_way) (by decide +kernel)) (fun _ _ _ _ _ => (pg_name (i := 8) sc_law_way.nd rfl (.inl rfl))) (fun _ _ _ _ _ => (pts_one (nT_cmp o_gt (nE_draw C__law_next (hr.mono (by omega)) (by rfl) (pv 0) (nA_cons (nE_pure (dE_c (μ := true) pe_int)) nA_nil)) (nE_pure (dE_c (μ := true) pe_int)) (nomark _)))) (fun _ _ _ _ _ => (nE_pure (dE_var (μ := true) (pv 8)))))) nA_nil))))
  (nSs_cons (nS_asg (K := K) (p := .nm 6) (ps_set (i := 6) sc_law_way.nd rfl (.inl rfl) (nE_draw C__law_one (hr.mono (by omega)) (by rfl) (pv 0) (nA_cons (nE_pure (dE_lst (dA_cons (dE_c (μ := true) pe_str) (dA_cons (dE_c (μ := true) pe_str) (dA_nil (μ := true)))))) nA_nil))))
  (nSs_one (nS_ret (ps_ret (nE_tup (nA_cons (nE_draw C__law_one (hr.mono (by omega)) (by rfl) (pv 0) (nA_cons (nE_pure (dE_var (μ := true) (pv 2))) nA_nil)) (nA_cons (nE_pure (dE_var (μ := true) (pv 4))) (nA_cons (nE_pure (dE_var (μ := true) (pv 6))) (nA_cons (nE_pure (dE_var (μ := true) (pv 5))) (nA_cons (nE_op o_add (nE_pure (dE_c (μ := true) pe_int)) (nE_draw C__law_next (hr.mono (by omega)) (by rfl) (pv 0) (nA_cons (nE_pure (dE_c (μ := true) pe_int)) nA_nil))) nA_nil)))))))))))), fun ds b Q l h => ?_⟩
  obtain ⟨⟨n, ks, old, rfl, hk, n1, n6, o0, o20⟩, hb, q⟩ := h
  have hk1 := hk.1
  have hk2 := hk.2.1
  refine ⟨_, rfl, wNext (m := 4) rfl rfl (by decide) (by decide) (by omega) fun v1 b1 v10 v11 h1 => ?_⟩
  obtain ⟨x, ex, xs⟩ := lst4 (a := PyData.int 1) (b := .int 2) (c := .int 2) (d := .int 3) v10 v11
  obtain ⟨m, rfl, m1, m3⟩ : ∃ m : Int, x = .int m ∧ 1 ≤ m ∧ m ≤ 3 := by
    rcases xs with rfl | rfl | rfl | rfl <;> exact ⟨_, rfl, by decide, by decide⟩
  refine ⟨_, ex, _, rfl, rgD 0 m.toNat, ran1_ok (by omega) (by omega), ?_⟩
  have lm : (rgD 0 m.toNat).length = m.toNat := rgD_len _ _
  refine lcN_all 6 (PrtP ks) (rgD 0 m.toNat) b1 _ (by rw [lm]; omega) (fun x hx b Q hb q => ?_) (fun ps b2 lp hp h2 => ?_)
  · obtain ⟨i, _, rfl⟩ := List.mem_map.mp hx
    refine ⟨_, rfl, rfl, .tuple ks, rfl, .int old, rfl, _, rfl, _, rfl, rfl, ⟨ks, old, rfl, hk, o0, o20⟩, hb, fun d n' ⟨ks', old', e, pd⟩ hn => ?_⟩
    cases e
    exact q d n' pd hn
  rw [lm] at lp h2
  refine ⟨_, rfl, .tuple ps, rfl, [some .pool, some (.dat (.int n)), some (.dat (.tuple ks)), some (.dat (.int old)), some (.dat (.tuple ps)), none, none, none, none], rfl, ?_⟩
  refine ⟨rgD 0 n.toNat, ev_itG (ds := [.int n]) rfl (ran1_ok (by omega) (by omega)), ?_⟩
  have ln : (rgD 0 n.toNat).length = n.toNat := rgD_len _ _
  refine lcN_some (by show 8 < 9; decide) 1 (rgD 0 n.toNat) b2 _ (by rw [ln]; omega) (fun x hx b Q hb q => ?_) (fun r b3 hs h3 => ?_) (fun x => rfl)
  · exact wNext (m := 4) rfl rfl (by decide) (by decide) hb fun v n' v0 v1 hn => ⟨.int 0, rfl, _, rfl, _, rfl, q _ n' hn⟩
  rw [ln] at h3
  obtain ⟨hs', hsub, rfl⟩ : ∃ hs' : List Int, hs'.Sublist ((List.range n.toNat).map fun (i : Nat) => (0 : Int) + i) ∧ r = hs'.map PyData.int := by
    have e : rgD 0 n.toNat = ((List.range n.toNat).map fun (i : Nat) => (0 : Int) + i).map PyData.int := by unfold rgD; rw [List.map_map]; rfl
    rw [e] at hs
    exact List.sublist_map_iff.mp hs
  refine ⟨_, rfl, .tuple _, rfl, [some .pool, some (.dat (.int n)), some (.dat (.tuple ks)), some (.dat (.int old)), some (.dat (.tuple ps)), some (.dat (.tuple (hs'.map PyData.int))), none, none, none], rfl, ?_⟩
  refine wOne (items := [S "oldest", S "youngest"]) rfl rfl rfl (by decide) (by decide) (by omega) fun kp b4 km4 h4 => ⟨[some .pool, some (.dat (.int n)), some (.dat (.tuple ks)), some (.dat (.int old)), some (.dat (.tuple ps)), some (.dat (.tuple (hs'.map PyData.int))), some (.dat kp), none, none], rfl, ?_⟩
  refine wOne (items := ks) rfl rfl rfl hk1 (by omega) (by omega) fun k b5 km h5 => ⟨_, rfl, _, rfl, _, rfl, .int 1, rfl, wNext (m := 6) rfl rfl (by decide) (by decide) (by omega) fun v6 b6 v60 v61 h6 => ⟨_, rfl, _, rfl, _, rfl, _, rfl, _, rfl, _, rfl, _, rfl, ?_⟩⟩
  exact q _ b6 ⟨n, ks, old, rfl, k, ps, kp, hs', 1 + v6, rfl, km, by omega, by omega, hp, by simpa using km4, hsub, by omega, by omega⟩ (by omega)
end
end Dl
namespace Dl
open PySem PySem.Spec PyProof.Rows L2 Rt
/-! ### data that is neither deep nor long -/
def Bd (m : Nat) : Nat → D → Prop
  | 0, _ => False
  | n + 1, .tuple ds => ds.length ≤ 70 + m ∧ ∀ d ∈ ds, Bd m n d
  | n + 1, .list ds => ds.length ≤ 70 + m ∧ ∀ d ∈ ds, Bd m n d
  | _ + 1, .dict kvs => kvs = []
  | _ + 1, .int i => i.natAbs ≤ 10 ^ 29 + 100 * m
  | _ + 1, .str z => PyData.strOk z = true ∧ z.length ≤ 20 + 20 * m
  | _ + 1, .none => True
  | _ + 1, .bool _ => True
theorem Bd.up {m m' : Nat} (hm : m ≤ m') : ∀ {n n' : Nat} {d : D}, Bd m n d → n ≤ n' → Bd m' n' d
  | 0, _, _, h, _ => h.elim
  | n + 1, 0, _, _, l => absurd l (by omega)
  | n + 1, n' + 1, .tuple ds, h, l => ⟨Nat.le_trans h.1 (by omega), fun d hd => Bd.up hm (h.2 d hd) (by omega)⟩
  | n + 1, n' + 1, .list ds, h, l => ⟨Nat.le_trans h.1 (by omega), fun d hd => Bd.up hm (h.2 d hd) (by omega)⟩
  | n + 1, n' + 1, .dict kvs, h, l => h
  | n + 1, n' + 1, .int i, h, l => Nat.le_trans (show i.natAbs ≤ 10 ^ 29 + 100 * m from h) (by omega)
  | n + 1, n' + 1, .str z, h, l => ⟨h.1, Nat.le_trans h.2 (by omega)⟩
  | n + 1, n' + 1, .none, h, l => trivial
  | n + 1, n' + 1, .bool _, h, l => trivial
theorem Bd.gq {m : Nat} (hm : m ≤ 100) : ∀ {n : Nat} {d : D}, Bd m n d → Dl.gq d = true
  | 0, _, h => h.elim
  | n + 1, .tuple ds, h => Bool.and_eq_true_iff.mpr ⟨decide_eq_true (Nat.le_trans h.1 (by omega)), gqAll.of fun d hd => Bd.gq hm (h.2 d hd)⟩
  | n + 1, .list ds, h => rfl
  | n + 1, .dict kvs, h => rfl
  | n + 1, .int i, h => rfl
  | n + 1, .str z, h => h.1
  | n + 1, .none, h => rfl
  | n + 1, .bool _, h => rfl
theorem all_show : ∀ {ds : List D}, (∀ d ∈ ds, d.showable = true) → PyData.showableAll ds = true
  | [], _ => rfl
  | d :: r, h => by
    show (d.showable && PyData.showableAll r) = true
    rw [h d (by simp), all_show fun x hx => h x (by simp [hx])]
    rfl
theorem all_depth {k : Nat} : ∀ {ds : List D}, (∀ d ∈ ds, d.depth ≤ k) → PyData.depthAll ds ≤ k
  | [], _ => Nat.zero_le _
  | d :: r, h => Nat.max_le.mpr ⟨h d (by simp), all_depth fun x hx => h x (by simp [hx])⟩
theorem all_leaves {B : Nat} : ∀ {ds : List D}, (∀ d ∈ ds, d.leavesShort B = true) → PyData.leavesShortAll B ds = true
  | [], _ => rfl
  | d :: r, h => by
    show (d.leavesShort B && PyData.leavesShortAll B r) = true
    rw [h d (by simp), all_leaves fun x hx => h x (by simp [hx])]
    rfl
theorem big30 {i : Int} {m : Nat} (hm : m ≤ 100) (h : i.natAbs ≤ 10 ^ 29 + 100 * m) : i.natAbs < 10 ^ 30 :=
  Nat.lt_of_le_of_lt h (Nat.lt_of_le_of_lt (Nat.add_le_add_left (Nat.mul_le_mul_left 100 hm) _) (by decide))
theorem log30 {i : Int} (h : i.natAbs < 10 ^ 30) : i.natAbs.log2 < 100 := by
  by_cases z : i.natAbs = 0
  · rw [z]; decide
  · exact (Nat.log2_lt z).mpr (Nat.lt_trans h (by decide))
theorem Bd.lim {m : Nat} (hm : m ≤ 100) : ∀ {n : Nat} {d : D}, Bd m n d → d.showable = true ∧ d.depth ≤ n ∧ d.leavesShort 40 = true
  | 0, _, h => h.elim
  | n + 1, .tuple ds, h => ⟨all_show fun d hd => (Bd.lim hm (h.2 d hd)).1, Nat.succ_le_succ (all_depth fun d hd => (Bd.lim hm (h.2 d hd)).2.1), all_leaves fun d hd => (Bd.lim hm (h.2 d hd)).2.2⟩
  | n + 1, .list ds, h => ⟨all_show fun d hd => (Bd.lim hm (h.2 d hd)).1, Nat.succ_le_succ (all_depth fun d hd => (Bd.lim hm (h.2 d hd)).2.1), all_leaves fun d hd => (Bd.lim hm (h.2 d hd)).2.2⟩
  | n + 1, .dict kvs, h => by
    cases (show kvs = [] from h)
    exact ⟨rfl, by show 0 + 1 ≤ n + 1; omega, rfl⟩
  | n + 1, .int i, h => by
    have h1 := big30 hm h
    refine ⟨decide_eq_true (Nat.lt_trans (log30 h1) (by decide)), Nat.zero_le _, decide_eq_true ?_⟩
    have := int_text_length_le10 (a := i) (k := 30) (by decide) h1
    show (Str.ofString (toString i)).length ≤ 40
    rw [PySem.ofString_length]
    omega
  | n + 1, .str z, h => ⟨rfl, Nat.zero_le _, by
    have o := h.1
    unfold PyData.strOk at o
    rw [Array.all_eq_true'] at o
    show (z.cps.toList.all fun c => decide (c < 16 ^ 8)) = true
    rw [List.all_eq_true]
    intro c hc
    have := of_decide_eq_true (o c (Array.mem_toList_iff.mp hc))
    exact decide_eq_true (Nat.lt_trans this (by decide))⟩
  | n + 1, .none, h => ⟨rfl, Nat.zero_le _, rfl⟩
  | n + 1, .bool _, h => ⟨rfl, Nat.zero_le _, rfl⟩
/-- it can be shown -/
theorem Bd.repr {m n : Nat} {d : D} (h : Bd m n d) (hm : m ≤ 100) (hn : n ≤ 60) (hw : d.weight ≤ 200000) : reprD [d] = some (.str d.shown) := by
  obtain ⟨a, b, c⟩ := h.lim hm
  have := PyData.shown_le 40 (by decide) d c
  refine if_pos ⟨a, by omega, Nat.le_trans this ?_⟩
  exact Nat.le_trans (show (40 + 2) * d.weight + 40 ≤ 8400040 by omega) (by decide)
/-! ### weights -/
theorem wAll_app : ∀ (a b : List D), PyData.weightAll (a ++ b) = PyData.weightAll a + PyData.weightAll b
  | [], b => (Nat.zero_add _).symm
  | x :: a, b => by
    show x.weight + 1 + PyData.weightAll (a ++ b) = x.weight + 1 + PyData.weightAll a + PyData.weightAll b
    rw [wAll_app a b]
    omega
theorem wAll_mem : ∀ {a : List D} {x : D}, x ∈ a → x.weight + 1 ≤ PyData.weightAll a
  | y :: a, x, h => by
    show x.weight + 1 ≤ y.weight + 1 + PyData.weightAll a
    rcases List.mem_cons.mp h with e | e
    · rw [e]; omega
    · have := wAll_mem e
      omega
theorem wAll_drop (a : List D) (n : Nat) : PyData.weightAll (a.drop n) ≤ PyData.weightAll a := by
  have := wAll_app (a.take n) (a.drop n)
  rw [List.take_append_drop] at this
  omega
theorem wAll_take (a : List D) (n : Nat) : PyData.weightAll (a.take n) ≤ PyData.weightAll a := by
  have := wAll_app (a.take n) (a.drop n)
  rw [List.take_append_drop] at this
  omega
theorem wAll_rev : ∀ a : List D, PyData.weightAll a.reverse = PyData.weightAll a
  | [] => rfl
  | x :: a => by
    rw [List.reverse_cons, wAll_app, wAll_rev a]
    show PyData.weightAll a + (x.weight + 1 + 0) = x.weight + 1 + PyData.weightAll a
    omega
theorem wAll_le {c : Nat} : ∀ {a : List D}, (∀ x ∈ a, x.weight ≤ c) → PyData.weightAll a ≤ a.length * (c + 1)
  | [], _ => Nat.zero_le _
  | x :: a, h => by
    have h1 := h x (by simp)
    have h2 := wAll_le (c := c) (a := a) fun y hy => h y (by simp [hy])
    show x.weight + 1 + PyData.weightAll a ≤ (a.length + 1) * (c + 1)
    rw [Nat.add_mul, Nat.one_mul]
    omega
theorem wAll_set {a : List D} {i : Nat} {y x : D} (hi : a[i]? = some x) : PyData.weightAll (a.set i y) + x.weight = PyData.weightAll a + y.weight := by
  have hl := (List.getElem?_eq_some_iff.mp hi).1
  have e1 : a.set i y = a.take i ++ y :: a.drop (i + 1) := by rw [List.set_eq_take_append_cons_drop, if_pos hl]
  have e2 : a = a.take i ++ x :: a.drop (i + 1) := by
    obtain ⟨_, e⟩ := List.getElem?_eq_some_iff.mp hi
    rw [← e]
    simp
  have w1 := wAll_app (a.take i) (y :: a.drop (i + 1))
  have w2 := wAll_app (a.take i) (x :: a.drop (i + 1))
  rw [← e1] at w1
  rw [← e2] at w2
  have w3 : PyData.weightAll (y :: a.drop (i + 1)) = y.weight + 1 + PyData.weightAll (a.drop (i + 1)) := rfl
  have w4 : PyData.weightAll (x :: a.drop (i + 1)) = x.weight + 1 + PyData.weightAll (a.drop (i + 1)) := rfl
  omega
theorem wInt {i : Int} (h : i.natAbs < 10 ^ 30) : (PyData.int i).weight ≤ 100 := by
  show (if i == 0 then 0 else i.natAbs.log2 + 1) ≤ 100
  have := log30 h
  split <;> omega
/-! ### odd things, and things bent -/
def OddP (d : D) : Prop := (∀ m, Bd m 2 d) ∧ d.weight ≤ 100
def SpP (x d : D) : Prop := (∀ m k, m ≤ 5 → Bd m k x → Bd (m + 1) (k + 2) d) ∧ d.weight ≤ 2 * x.weight + 200
theorem OddP.sp {x d : D} (h : OddP d) : SpP x d := ⟨fun m k _ _ => (h.1 (m + 1)).up (Nat.le_refl _) (by omega), by have := h.2; omega⟩
theorem cut_last {α : Type} (xs : List α) : cutD xs (some (-1)) none = xs.drop (xs.length - 1) := by
  unfold cutD
  rw [HT.sIx_none]
  have : HT.sIx xs.length 0 (some (-1)) = xs.length - 1 := by
    show (if (-1 : Int) < 0 then ((-1 : Int) + (xs.length : Int)).toNat else min (-1 : Int).toNat xs.length) = _
    rw [if_pos (by decide)]
    omega
  rw [this, List.take_of_length_le (by rw [List.length_drop]; omega)]
theorem sp_drop {xs : List D} : SpP (.tuple xs) (.tuple (xs.drop 1)) := ⟨fun m k _ h => by
  cases k with
  | zero => exact h.elim
  | succ k => exact ⟨by have := h.1; rw [List.length_drop]; omega, fun d hd => (h.2 d (List.mem_of_mem_drop hd)).up (by omega) (by omega)⟩, by
  show PyData.weightAll _ ≤ 2 * PyData.weightAll xs + 200
  have := wAll_drop xs 1
  omega⟩
theorem sp_more {xs : List D} : SpP (.tuple xs) (.tuple (xs ++ xs.drop (xs.length - 1))) := ⟨fun m k _ h => by
  cases k with
  | zero => exact h.elim
  | succ k => exact ⟨by have := h.1; rw [List.length_append, List.length_drop]; omega, fun d hd => by
      rcases List.mem_append.mp hd with hd | hd
      · exact (h.2 d hd).up (by omega) (by omega)
      · exact (h.2 d (List.mem_of_mem_drop hd)).up (by omega) (by omega)⟩, by
  show PyData.weightAll _ ≤ 2 * PyData.weightAll xs + 200
  rw [wAll_app]
  have := wAll_drop xs (xs.length - 1)
  omega⟩
theorem sp_rev {xs : List D} : SpP (.tuple xs) (.tuple xs.reverse) := ⟨fun m k _ h => by
  cases k with
  | zero => exact h.elim
  | succ k => exact ⟨by have := h.1; rw [List.length_reverse]; omega, fun d hd => (h.2 d (List.mem_reverse.mp hd)).up (by omega) (by omega)⟩, by
  show PyData.weightAll _ ≤ 2 * PyData.weightAll xs + 200
  rw [wAll_rev]
  omega⟩
theorem sp_list {xs : List D} : SpP (.tuple xs) (.list xs) := ⟨fun m k _ h => by
  cases k with
  | zero => exact h.elim
  | succ k => exact ⟨by have := h.1; omega, fun d hd => (h.2 d hd).up (by omega) (by omega)⟩, by
  show PyData.weightAll _ ≤ 2 * PyData.weightAll xs + 200
  omega⟩
theorem sp_set {xs : List D} {i : Nat} {x y : D} (hi : xs[i]? = some x) (h : SpP x y) : SpP (.tuple xs) (.tuple (xs.set i y)) := ⟨fun m k hm hb => by
  cases k with
  | zero => exact hb.elim
  | succ k => exact ⟨by have := hb.1; rw [List.length_set]; omega, fun d hd => by
      rcases List.mem_or_eq_of_mem_set hd with hd | rfl
      · exact (hb.2 d hd).up (by omega) (by omega)
      · exact h.1 m k hm (hb.2 x (List.mem_of_getElem? hi))⟩, by
  show PyData.weightAll _ ≤ 2 * PyData.weightAll xs + 200
  have h1 := wAll_set (y := y) hi
  have h2 := wAll_mem (List.mem_of_getElem? hi)
  have h3 := h.2
  omega⟩
theorem strOk_iff {z : Str} : PyData.strOk z = true ↔ ∀ c ∈ z.cps.toList, c < 1114112 := by
  unfold PyData.strOk
  rw [Array.all_eq_true']
  constructor
  · intro h c hc
    exact of_decide_eq_true (h c (Array.mem_toList_iff.mp hc))
  · intro h c hc
    exact decide_eq_true (h c (Array.mem_toList_iff.mpr hc))
theorem s_app (x y : Str) : (x ++ y).cps.toList = x.cps.toList ++ y.cps.toList := by
  show (x.cps ++ y.cps).toList = _
  rw [Array.toList_append]
theorem s_len (x : Str) : x.length = x.cps.toList.length := by
  show x.cps.size = _
  rw [Array.length_toList]
theorem sp_str {x y : Str} (h : ∀ c ∈ y.cps.toList, c ∈ x.cps.toList ∨ c < 1114112) (hl : y.length ≤ x.length + 8) : SpP (.str x) (.str y) := ⟨fun m k _ hb => by
  cases k with
  | zero => exact hb.elim
  | succ k => exact ⟨strOk_iff.mpr fun c hc => (h c hc).elim (strOk_iff.mp hb.1 c) id, by have := hb.2; omega⟩, by
  show y.length ≤ 2 * x.length + 200
  omega⟩
theorem sp_int {x : D} {i j : Int} (hx : ∀ m k, m ≤ 5 → Bd m k x → Bd m k (.int i)) (h0 : i.natAbs < 10 ^ 30) (hj : j.natAbs ≤ i.natAbs + 20) : SpP x (.int j) := ⟨fun m k hm hb => by
  have := hx m k hm hb
  cases k with
  | zero => exact hb.elim
  | succ k => exact Nat.le_trans hj (Nat.le_trans (Nat.add_le_add_right (show i.natAbs ≤ 10 ^ 29 + 100 * m from this) 20) (by omega)), by
  have e : j.natAbs < 2 ^ 100 := Nat.lt_of_le_of_lt hj (Nat.lt_trans (Nat.add_lt_add_right h0 20) (by decide))
  have : (PyData.int j).weight ≤ 200 := by
    show (if j == 0 then 0 else j.natAbs.log2 + 1) ≤ 200
    split
    · omega
    · by_cases z : j.natAbs = 0
      · rw [z]; decide
      · have := (Nat.log2_lt z).mpr e
        omega
  omega⟩
theorem sp_bool {x : D} {b : Bool} : SpP x (.bool b) := ⟨fun m k _ _ => trivial, Nat.zero_le _⟩
/-! ### readings -/
theorem wIfTail {c : WP Bool} {f r : WP Out} {ρ : Rho} {b : Nat} {Q : Out → Nat → Prop} (B : Nat → Prop) (hr : ∀ b', B b' → r.w ρ b' Q) (h : (∀ b', B b' → r.w ρ b' Q) → c.w ρ b fun k b1 => if k = true then (swSeq f r).w ρ b1 Q else r.w ρ b1 Q) : (swSeq (swIf c f swNil) r).w ρ b Q := by
  refine c.m (fun k b1 z => ?_) (h hr)
  cases k with
  | true => exact z
  | false => exact z
end Dl
namespace Dl
open PySem PySem.Spec PyProof.Rows L2 Rt
/-! ### a list of one's own that is only read from now on -/
theorem Mu.frz {M0 : Addr → Prop} {σ : L2.St} {ρ : Rho} {i : Nat} {d : D} (a : Addr) (m : Mu true M0 σ (ρ.set i (some (.dat d))) a) : Mu true M0 σ ρ a := by
  rcases m with m | ⟨_, j, ds, e1, e2⟩
  · exact .inl m
  · rcases set_get e1 with ⟨_, z⟩ | ⟨_, z⟩
    · cases z
    · exact .inr ⟨rfl, j, ds, z, e2⟩
theorem Rn.frz {g : Pl} {M0 : Addr → Prop} {H0 H : Hp} {σ : L2.St} {ρ : Rho} {b : Nat} {i : Nat} {ds : List D} (R : Rn g M0 H0 H σ ρ b) (ei : ρ[i]? = some (some (.own ds))) : Rn g M0 H0 H σ (ρ.set i (some (.dat (.list ds)))) b := by
  have sh : ∀ a, Mu true M0 σ (ρ.set i (some (.dat (.list ds)))) a → Mu true M0 σ ρ a ∨ H a = none := fun a m => .inl (Mu.frz a m)
  refine ⟨R.kp, R.dom0, R.dom, R.pl, R.iv, by rw [List.length_set]; exact R.len, fun j d' e => ?_, fun j ds' e => ?_, fun j w e => ?_, fun j e => ?_, fun j k a c p e1 e2 e3 e4 => ?_⟩
  · rcases set_get e with ⟨rfl, e9⟩ | ⟨n, e⟩
    · cases e9
      obtain ⟨p, vs, x, y, z, l, w⟩ := R.own i ds ei
      refine ⟨.ref p, x, .lst y (fun m => ?_) l (w.reM sh)⟩
      rcases m with m | ⟨_, j, ds', f1, f2⟩
      · exact R.dom0 p m z
      · rcases set_get f1 with ⟨_, q⟩ | ⟨n, q⟩
        · cases q
        · exact n (R.inj i j ds ds' p ei q x f2)
    · obtain ⟨w, x, y⟩ := R.dat j d' e
      exact ⟨w, x, y.reM sh⟩
  · rcases set_get e with ⟨_, z⟩ | ⟨_, z⟩
    · cases z
    · obtain ⟨p, vs, x, y, z, l, w⟩ := R.own j ds' z
      exact ⟨p, vs, x, y, z, l, w.reM sh⟩
  · rcases set_get e with ⟨_, z⟩ | ⟨_, z⟩
    · cases z
    · exact R.raw j w z
  · rcases set_get e with ⟨_, z⟩ | ⟨_, z⟩
    · cases z
    · exact R.pool j z
  · rcases set_get e1 with ⟨_, z⟩ | ⟨_, f1⟩
    · cases z
    rcases set_get e2 with ⟨_, z⟩ | ⟨_, f2⟩
    · cases z
    exact R.inj j k a c p f1 f2 e3 e4
def swFrz (i : Nat) (f : WP Out) : WP Out := ⟨fun ρ b Q => ∃ ds, ρ[i]? = some (some (.own ds)) ∧ f.w (ρ.set i (some (.dat (.list ds)))) b Q, fun h ⟨ds, e, z⟩ => ⟨ds, e, f.m h z⟩⟩
section
variable {X : Cx} {K : PySem.W.Frag}
theorem nS_frz {st : Stmt} {i : Nat} {f : WP Out} (h : PS X st (tSn f)) : PS X st (tSn (swFrz i f)) := h.wk fun Dn σ H q => by
  obtain ⟨g, M0, H0, ρ, b, R, ds, e, q⟩ := q
  exact ⟨g, M0, H0, _, b, R.frz e, f.m (fun o b' p => PostN.from ⟨.refl, fun a m => .inl (Mu.frz a m)⟩ p) q⟩
/-- a loop each of whose turns costs so much -/
theorem forN_cost {p : Pat} {body : WP Out} {Q : Out → Nat → Prop} (N c : Nat) (I : Nat → Rho → Prop) : ∀ (items : List D) (k : Nat) (ρ : Rho) (b : Nat), k + items.length ≤ N → I k ρ → items.length * c ≤ b → (∀ x ∈ items, ∀ k ρ b, k < N → I k ρ → c ≤ b → ∃ ρ1, bindP p x ρ = some ρ1 ∧ ∀ Q' : Out → Nat → Prop, (∀ ρ2 b2, I (k + 1) ρ2 → b ≤ b2 + c → Q' (.nx ρ2) b2) → body.w ρ1 b Q') → (∀ ρ' b', I (k + items.length) ρ' → b ≤ b' + items.length * c → Q (.nx ρ') b') → forN p body items ρ b Q
  | [], k, ρ, b, _, i, _, _, q => q ρ b i (by simp)
  | x :: xs, k, ρ, b, hN, i, hb, hs, q => by
    have e : (x :: xs).length * c = xs.length * c + c := by rw [List.length_cons, Nat.add_mul, Nat.one_mul]
    rw [e] at hb q
    rw [List.length_cons] at hN
    obtain ⟨ρ1, e1, hw⟩ := hs x (by simp) k ρ b (by omega) i (by omega)
    refine ⟨ρ1, e1, hw _ fun ρ2 b2 i2 h2 => forN_cost N c I xs (k + 1) ρ2 b2 (by omega) i2 (by omega) (fun y hy => hs y (by simp [hy])) fun ρ' b' i' h' => q ρ' b' ?_ (by omega)⟩
    rw [List.length_cons, show k + (xs.length + 1) = k + 1 + xs.length by omega]
    exact i'
/-- texts told apart -/
def neS : D → D → Option D
  | .str a, .str b => some (.bool (!(a == b)))
  | _, _ => none
theorem o_neS (hu : X.A.units + 64 < cLine) : OpR X (compareOp .NotEq) (rD neS) := by
  intro pn s σ H x y v u Q I rx ry h
  obtain ⟨M, a, b, d, dm, ra, rb, e, q⟩ := h
  cases ra <;> (try (cases rb <;> cases e; done))
  cases rb <;> (try (cases e; done))
  cases e
  obtain ⟨t, rfl⟩ := rx
  obtain ⟨t', rfl⟩ := ry
  exact SeqAt.RcNeAt.str_str _ _ _ _ _ _ _ _ ⟨.bl _, H, I, rfl, q _ _ (Same.refl _) (.bl _)⟩
end
/-! ### the law itself, where the table of modules is known to stand -/
theorem lawG2 {P : Program} {w : World} {K : PySem.W.Frag} {mg mb : Str → Option Value} {k : Nat} {fa a : Addr} {fd : FuncData} {x : Str} {sp : Sp} {s0 : Shared} {us : List Value} {ns : List Int}
    (inK : K.In s0.heap) (gl : s0.heap.Ns mainGlobals mg) (bl : s0.heap.Ns builtinsNs mb) (bb : ∀ x : Str, x ≠ "__name__" → mb x = bootBuiltins x) (nl : s0.heap.NoLimit) (sm : ∃ mm, s0.heap.Ns sysModules mm) (ng : s0.gens = #[])
    (sc : s0.heap.get? a = some { cls := .type "list", data := .seq us.toArray }) (hin : IntsAre us ns) (short : ns.length ≤ sizeLine) (room : Room k callerA)
    (F : ∀ base : Heap, K.In base → base.Ns mainGlobals mg → (∃ o, base.get? sysModules = some o) → FnG P w K mg base k fa fd [x] sp) (bd : ∀ (s : Shared) (u : Value), BindsTo s fd ⟨[u], []⟩ [(x, u)])
    (hsp : ∀ H : Hp, Only H → SqL K H a (ns.map V.int) → sp [.ref a] H (fun v _ => v = .bl true) E0) :
    codeAny (model P w) callerA (.call (.ref fa) ⟨[.ref a], []⟩) (fun r s2 => r = .ok (.ret (.bool true)) ∧ OldK s0.heap s2.heap ∧ s2.os = s0.os ∧ AllBare s2.gens) s0 := by
  have rel := vals_ints hin
  have main : ∀ H : Hp, Only H → SqL K H a (ns.map V.int) → HOk P w H s0.heap → (∀ b u, H b = some u → b = a ∧ K.lookup a = none) →
      codeAny (model P w) callerA (.call (.ref fa) ⟨[.ref a], []⟩) (fun r s2 => r = .ok (.ret (.bool true)) ∧ OldK s0.heap s2.heap ∧ s2.os = s0.os ∧ AllBare s2.gens) s0 := by
    intro H only seq hok just
    have free : ∀ {b : Addr}, (b = a → K.lookup a = none → False) → H b = none := fun {b} no => by
      cases z : H b with
      | none => rfl
      | some u => exact (no (just b u z).1 (just b u z).2).elim
    have spaces : ∀ {b : Addr} {m : Str → Option Value}, s0.heap.Ns b m → (hidT s0.heap H).Ns b m := fun {b m} h => by
      obtain ⟨o, es, ep, e, d, r⟩ := h
      refine ⟨o, es, ep, hidT_get e (free fun z _ => ?_), d, r⟩
      subst z
      rw [sc] at e
      cases e
      cases d
    have inB : K.In (hidT s0.heap H) := fun b o e => hidT_get (inK b o e) (free fun z n => by
      subst z
      rw [n] at e
      cases e)
    have md : Mod K mg (hidT s0.heap H) := by
      obtain ⟨mc, n1, n2⟩ := nl
      exact ⟨inB, spaces gl, ⟨mb, spaces bl, bb⟩, ⟨mc, spaces n1, n2⟩⟩
    have hsm : ∃ o, (hidT s0.heap H).get? sysModules = some o := by
      obtain ⟨mm, h⟩ := sm
      obtain ⟨o, _, _, e, _⟩ := spaces h
      exact ⟨o, e⟩
    have en : Env0 P w K mg (hidT s0.heap H) callerA [] s0 H := ⟨rfl, md, fun b o e => of_hidT e, Nat.le_of_eq (hidT_size _ _), trivial, (fun b z => nomatch (show b ∈ ([] : List Addr) from z)), hok, .of_eq ng⟩
    refine codeAny_mono ((F _ inB (spaces gl) hsm).goes callerA [] s0 H ⟨[.ref a], []⟩ [.ref a] [.ref a] _ _ room rfl en (bd s0 (.ref a)) (.cons rfl .nil) (hsp H only seq)) fun r s2 h => ?_
    match r, h with
    | .error e, h => exact (h : False).elim
    | .ok .next, h => exact (h : False).elim
    | .ok .brk, h => exact (h : False).elim
    | .ok .cont, h => exact (h : False).elim
    | .ok (.ret u), h =>
      obtain ⟨v, H2, os, bare, un, hok2, rv, rfl⟩ := h
      obtain rfl : u = Value.bool true := rv
      refine ⟨rfl, OldK.of_keep fun b o e => ?_, os, bare⟩
      rcases only b with z | ⟨ob, xs, z⟩
      · exact un.keep b o e z (fun m => nomatch (show b ∈ ([] : List Addr) from m)) (fun m => nomatch m)
      · have e1 := (hok b _ z).1
        have e2 := (hok2 b _ (un.frzs b ob _ z)).1
        rw [e] at e1
        cases e1
        exact e2
  cases own : K.lookup a with
  | some o =>
    have e := inK a o own
    rw [sc] at e
    cases e
    exact main (fun _ => none) (fun _ => .inl rfl) (.inr ⟨_, us.toArray, _, own, rfl, rfl, rfl, by rw [List.size_toArray, hin.length]; exact short, by simpa using rel⟩) (fun b u z => nomatch z) (fun b u z => nomatch z)
  | none =>
    refine main (fun b => if b = a then some (.frz { cls := .type "list", data := .seq us.toArray } (.lst (ns.map V.int))) else none) (fun b => ?_) (.inl (.inr ⟨{ cls := .type "list", data := .seq us.toArray }, if_pos rfl⟩)) (fun b u z => ?_) (fun b u z => ?_)
    · by_cases e : b = a
      · exact .inr ⟨_, _, if_pos e⟩
      · exact .inl (if_neg e)
    · by_cases e : b = a
      · have z2 := (if_pos e).symm.trans z
        cases z2
        subst e
        exact ⟨sc, by rw [List.length_map]; exact short, us, _, rel, sc⟩
      · exact nomatch ((if_neg e).symm.trans z)
    · by_cases e : b = a
      · exact ⟨e, own⟩
      · exact nomatch ((if_neg e).symm.trans z)
theorem walk_G2 {l : PySem.W.OpenLaw} {n k : Nat} {q : Program} {loose : List Str} {XP : (Str → Option Value) → Heap → Prop} {YP : World → Heap → Prop} {d : DefRec} {K : Params → PySem.W.Frag} {sp : World → Sp} {x : Str}
    (hi : importsNone q = true) (most : l.most = some n) (n2 : n ≤ sizeLine) (nd : d.params.defaults = []) (room : Room k callerA) (hY : ∀ (w : World) (h : Heap), YP w h → (K w.params).In h)
    (F : ∀ (w : World) (mg : Str → Option Value) (fa : Addr) (h : Heap), (K w.params).In h → h.Ns mainGlobals mg → mg d.name = some (.ref fa) →
      ∃ fd : FuncData, (∀ (s : Shared) (u : Value), BindsTo s fd ⟨[u], []⟩ [(x, u)]) ∧ ∀ base : Heap, (K w.params).In base → base.Ns mainGlobals mg → (∃ o, base.get? sysModules = some o) → FnG l.prog w (K w.params) mg base k fa fd [x] (sp w))
    (hsp : ∀ (w : World) (H : Hp) (a : Addr) (ns : List Int), ns.length ≤ n → Only H → SqL (K w.params) H a (ns.map V.int) → sp w [.ref a] H (fun v _ => v = .bl true) E0) :
    PySem.W.WalkO q loose XP YP l.row.toRowW d [] (fun f vs => PySem.call f vs) := by
  refine Att.attach_call most nd fun w sA sB mg mb fa o pm cd doc a us ns G Y ho hd hcd hmg hobj hints hlen hg => ?_
  obtain ⟨fd, hb, hF⟩ := F w mg fa _ (hY w _ Y) G.T.g hmg
  obtain ⟨mm, h1, _⟩ := (G.T.seer hi).mods
  exact lawG2 (hY w _ Y) G.T.g G.T.b G.T.builtins G.T.nolimit ⟨mm, h1⟩ hg hobj hints (Nat.le_trans hlen n2) room hF hb fun H only seq => hsp w H a ns hlen only seq
end Dl
namespace Dl
open PySem PySem.Spec PyProof.Rows L2 Rt
/-- how long it may be -/
def lnP (x d : D) : Prop := ∀ xs ds, x = .tuple xs → d = .tuple ds → ds.length ≤ xs.length + 1
def OddQ (d : D) : Prop := OddP d ∧ ∀ ds, d = .tuple ds → ds.length ≤ 1
def SpQ (x d : D) : Prop := SpP x d ∧ lnP x d
theorem OddQ.spq {x d : D} (h : OddQ d) : SpQ x d := ⟨h.1.sp, fun xs ds _ e => by have := h.2 ds e; omega⟩
theorem spq_drop {xs : List D} : SpQ (.tuple xs) (.tuple (xs.drop 1)) := ⟨sp_drop, fun as ds e1 e2 => by cases e1; cases e2; rw [List.length_drop]; omega⟩
theorem spq_more {xs : List D} : SpQ (.tuple xs) (.tuple (xs ++ xs.drop (xs.length - 1))) := ⟨sp_more, fun as ds e1 e2 => by cases e1; cases e2; rw [List.length_append, List.length_drop]; omega⟩
theorem spq_rev {xs : List D} : SpQ (.tuple xs) (.tuple xs.reverse) := ⟨sp_rev, fun as ds e1 e2 => by cases e1; cases e2; rw [List.length_reverse]; omega⟩
theorem spq_list {xs : List D} : SpQ (.tuple xs) (.list xs) := ⟨sp_list, fun as ds e1 e2 => nomatch e2⟩
theorem spq_set {xs : List D} {i : Nat} {x y : D} (hi : xs[i]? = some x) (h : SpQ x y) : SpQ (.tuple xs) (.tuple (xs.set i y)) := ⟨sp_set hi h.1, fun as ds e1 e2 => by cases e1; cases e2; rw [List.length_set]; omega⟩
theorem spq_str {x y : Str} (h : ∀ c ∈ y.cps.toList, c ∈ x.cps.toList ∨ c < 1114112) (hl : y.length ≤ x.length + 8) : SpQ (.str x) (.str y) := ⟨sp_str h hl, fun as ds e1 e2 => nomatch e1⟩
theorem spq_int {x : D} {i j : Int} (hx : ∀ m k, m ≤ 5 → Bd m k x → Bd m k (.int i)) (h0 : i.natAbs < 10 ^ 30) (hj : j.natAbs ≤ i.natAbs + 20) : SpQ x (.int j) := ⟨sp_int hx h0 hj, fun as ds e1 e2 => nomatch e2⟩
theorem spq_bool {x : D} {b : Bool} : SpQ x (.bool b) := ⟨sp_bool, fun as ds e1 e2 => nomatch e2⟩
def gOdd : GF := gAny 1 (fun ds => ds = []) (fun _ d => OddQ d)
theorem wOdd {i : Nat} {ρ : Rho} {b : Nat} {Q : D → Nat → Prop} (hp : ρ[i]? = some (some .pool)) (hb : 1 ≤ b) (q : ∀ d n', OddQ d → b ≤ n' + 1 → Q d n') : (wCall i 0 gOdd wNil).w ρ b Q := ⟨hp, rfl, rfl, hb, fun d n' p hn => q d n' p hn⟩
def gSp (n : Nat) : GF := gAny (2 * n + 4) (fun ds => ∃ x m, ds = [x] ∧ m ≤ 5 ∧ Bd m n x) (fun ds d => ∃ x, ds = [x] ∧ SpQ x d)
theorem oddS (x : String) (h1 : PyData.strOk (Str.ofString x) = true := by decide +kernel) (h2 : (Str.ofString x).length ≤ 20 := by decide +kernel) : OddP (S x) := ⟨fun m => ⟨h1, Nat.le_trans h2 (Nat.le_add_right _ _)⟩, Nat.le_trans h2 (by decide)⟩
def oddL : List D := [.none, .bool true, .bool false, .int (-1), .int (10 ^ 29), S "", S "a", S "oldest", S "youngest", .tuple [], .list [], .dict [], .tuple [.int 0], .list [.int 0], .tuple [.tuple []], S "A", .int 7, .int 21]
theorem odd_all : ∀ d ∈ oddL, OddP d := by
  intro d hd
  unfold oddL at hd
  simp only [List.mem_cons, List.not_mem_nil, or_false] at hd
  rcases hd with rfl | rfl | rfl | rfl | rfl | rfl | rfl | rfl | rfl | rfl | rfl | rfl | rfl | rfl | rfl | rfl | rfl | rfl
  · exact ⟨fun m => trivial, by decide⟩
  · exact ⟨fun m => trivial, by decide⟩
  · exact ⟨fun m => trivial, by decide⟩
  · exact ⟨fun m => by show (1 : Nat) ≤ 10 ^ 29 + 100 * m; omega, wInt (by decide)⟩
  · exact ⟨fun m => by show (10 : Nat) ^ 29 ≤ 10 ^ 29 + 100 * m; omega, wInt (by decide)⟩
  · exact oddS ""
  · exact oddS "a"
  · exact oddS "oldest"
  · exact oddS "youngest"
  · exact ⟨fun m => ⟨Nat.zero_le _, fun d h => nomatch h⟩, by decide⟩
  · exact ⟨fun m => ⟨Nat.zero_le _, fun d h => nomatch h⟩, by decide⟩
  · exact ⟨fun m => rfl, by decide⟩
  · exact ⟨fun m => ⟨by show 1 ≤ 70 + m; omega, fun d h => by rw [List.mem_singleton.mp h]; exact Nat.zero_le _⟩, by decide⟩
  · exact ⟨fun m => ⟨by show 1 ≤ 70 + m; omega, fun d h => by rw [List.mem_singleton.mp h]; exact Nat.zero_le _⟩, by decide⟩
  · exact ⟨fun m => ⟨by show 1 ≤ 70 + m; omega, fun d h => by rw [List.mem_singleton.mp h]; exact ⟨Nat.zero_le _, fun d h => nomatch h⟩⟩, by decide⟩
  · exact oddS "A"
  · exact ⟨fun m => by show (7 : Nat) ≤ 10 ^ 29 + 100 * m; omega, wInt (by decide)⟩
  · exact ⟨fun m => by show (21 : Nat) ≤ 10 ^ 29 + 100 * m; omega, wInt (by decide)⟩
theorem odd_ln : ∀ d ∈ oddL, ∀ ds, d = .tuple ds → ds.length ≤ 1 := by
  intro d hd ds e
  subst e
  simp only [oddL, S, List.mem_cons, List.not_mem_nil, or_false, reduceCtorEq, false_or, PyData.tuple.injEq] at hd
  rcases hd with rfl | rfl | rfl <;> decide
theorem iteB {c : Bool} {A B : Prop} (h1 : c = true → A) (h2 : c = false → B) : if c = true then A else B := by
  cases c with
  | true => exact h1 rfl
  | false => exact h2 rfl
theorem ev_lstX {g : Rho → Option (List D)} {ρ : Rho} {ds : List D} (h : g ρ = some ds) (hl : ds.length ≤ 1000) : eLst g ρ = some (.list ds) := by
  unfold eLst
  rw [h]
  exact if_pos (sz (by omega))
theorem ev_slX {f : EF} {lo hi : Rho → Option (Option Int)} {ρ : Rho} {d r : D} {l h : Option Int} (h1 : f ρ = some d) (h2 : lo ρ = some l) (h3 : hi ρ = some h) (h4 : slX d l h = some r) : eSlX f lo hi ρ = some r := by
  unfold eSlX
  rw [h1]
  show (lo ρ).bind _ = _
  rw [h2]
  show (hi ρ).bind _ = _
  rw [h3]
  exact h4
theorem addX_tup {a b : List D} (h : a.length + b.length ≤ 1000) : addX (.tuple a) (.tuple b) = some (.tuple (a ++ b)) := if_pos (sz (by omega))
theorem addX_str {a b : Str} (h : a.length + b.length ≤ 1000) : addX (.str a) (.str b) = some (.str (a ++ b)) := if_pos (sz (by omega))
section
variable {P : Program} {w : World} {K : PySem.W.Frag} {mg : Str → Option Value} {base : Heap}
theorem ok_odd {f : Addr} {fd : FuncData} (F : Fun K "_law_odd" "_law_odd" s_law_odd f fd) (C__law_one : Cl P w K mg base 2 "_law_one" ["_law_drawn", "_law_wares"] (spN 1 gOne)) : FnOk P w K mg base CX0 3 f fd ["_law_drawn"] (spN 0 gOdd) := by
  refine okFnN F sc_law_odd rfl fun cdv A outer s H E hr => ⟨_, (nSs_cons (nS_asg (K := K) (p := .nm 1) (ps_set (i := 1) sc_law_odd.nd rfl (.inl rfl) (nE_pure (dE_lst (dA_cons (dE_c (μ := true) pe_non) (dA_cons (dE_c (μ := true) pe_bl) (dA_cons (dE_c (μ := true) pe_bl) (dA_cons (dE_neg (dE_c (μ := true) pe_int)) (dA_cons (dE_op o_pow (dE_c (μ := true) pe_int) (dE_c (μ := true) pe_int)) (dA_cons (dE_c (μ := true) pe_str) (dA_cons (dE_c (μ := true) pe_str) (dA_cons (dE_c (μ := true) pe_str) (dA_cons (dE_c (μ := true) pe_str) (dA_cons (dE_tup (dA_nil (μ := true))) (dA_cons (dE_lst (dA_nil (μ := true))) (dA_cons (dE_dic0 (μ := true)) (dA_cons (dE_tup (dA_cons (dE_c (μ := true) pe_int) (dA_nil (μ := true)))) (dA_cons (dE_lst (dA_cons (dE_c (μ := true) pe_int) (dA_nil (μ := true)))) (dA_cons (dE_tup (dA_cons (dE_tup (dA_nil (μ := true))) (dA_nil (μ := true)))) (dA_cons (dE_c (μ := true) pe_str) (dA_cons (dE_c (μ := true) pe_int) (dA_cons (dE_c (μ := true) pe_int) (dA_nil (μ := true))))))))))))))))))))))))
  (nSs_one (nS_ret (ps_ret (nE_draw C__law_one (hr.mono (by omega)) (by rfl) (pv 0) (nA_cons (nE_pure (dE_var (μ := true) (pv 1))) nA_nil)))))), fun ds b Q l h => ?_⟩
  obtain ⟨rfl, hb, q⟩ := h
  refine ⟨.list oddL, rfl, [some .pool, some (.dat (.list oddL))], rfl, ?_⟩
  exact wOne (items := oddL) rfl rfl rfl (by decide) (by decide) hb fun d b1 dm h1 => q d b1 ⟨odd_all d dm, odd_ln d dm⟩ h1
theorem ok_spoiltS {f : Addr} {fd : FuncData} {k n : Nat} (hk : 3 ≤ k) (F : Fun K "_law_spoilt" "_law_spoilt" s_law_spoilt f fd) (m_isinstance : mg "isinstance" = none) (m_tuple : mg "tuple" = none) (m_len : mg "len" = none) (m_list : mg "list" = none) (m_str : mg "str" = none) (m_int : mg "int" = none)
    (C__law_next : Cl P w K mg base 1 "_law_next" ["_law_drawn", "_law_below"] (spN 1 gNext)) (C__law_one : Cl P w K mg base 2 "_law_one" ["_law_drawn", "_law_wares"] (spN 1 gOne)) (C__law_odd : Cl P w K mg base 3 "_law_odd" ["_law_drawn"] (spN 0 gOdd)) (C__law_spoilt : Cl P w K mg base k "_law_spoilt" ["_law_drawn", "_law_thing"] (spN 1 (gSp n))) :
    FnOk P w K mg base CX0 (k + 1) f fd ["_law_drawn", "_law_thing"] (spN 1 (gSp (n + 1))) := by
  refine okFnN F sc_law_spoilt rfl fun cdv A outer s H E hr => ⟨_, (nSs_cons (nS_if (PW.pt (nW_and (nT_pure (dT_val (dE_isi (dE_var (μ := true) (pv 1)) (pe_bltn (v := .ty "tuple") (by rfl) m_tuple (by decide +kernel) rfl) (by rfl) m_isinstance (by decide +kernel)))) (nW_and (nT_pure (dT_cmp (o_neT0 hr.units) (dE_var (μ := true) (pv 1)) (dE_tup (dA_nil (μ := true))) (nomark _))) (nW_and1 (nT_cmp o_gt (nE_draw C__law_next (hr.mono (by omega)) (by rfl) (pv 0) (nA_cons (nE_pure (dE_c (μ := true) pe_int)) nA_nil)) (nE_pure (dE_c (μ := true) pe_int)) (nomark _))))))
    (nSs_cons (nS_asg (K := K) (p := .nm 2) (ps_set (i := 2) sc_law_spoilt.nd rfl (.inl rfl) (nE_draw C__law_next (hr.mono (by omega)) (by rfl) (pv 0) (nA_cons (nE_pure (dE_callB c_len (by rfl) m_len (by decide +kernel) (dA_cons (dE_var (μ := true) (pv 1)) (dA_nil (μ := true))))) nA_nil))))
  (nSs_one (nS_ret (ps_ret (nE_op o_addX (nE_op o_addX (nE_pure (dE_slX (dE_var (μ := true) (pv 1)) dO_none (dO_some (dE_var (μ := true) (pv 2))))) (nE_tup (nA_cons (nE_draw C__law_spoilt (hr.mono (by omega)) (by rfl) (pv 0) (nA_cons (nE_pure (dE_ix (dE_var (μ := true) (pv 1)) (dE_var (μ := true) (pv 2)))) nA_nil)) nA_nil))) (nE_pure (dE_slX (dE_var (μ := true) (pv 1)) (dO_some (dE_op o_addX (dE_var (μ := true) (pv 2)) (dE_c (μ := true) pe_int))) dO_none)))))))
    nSs_nil)
  (nSs_cons (nS_asg (K := K) (p := .nm 3) (ps_set (i := 3) sc_law_spoilt.nd rfl (.inl rfl) (nE_lst (nA_cons (nE_draw C__law_odd (hr.mono (by omega)) (by rfl) (pv 0) nA_nil) (nA_cons (nE_draw C__law_odd (hr.mono (by omega)) (by rfl) (pv 0) nA_nil) nA_nil)))))
  (nSs_cons (nS_if (nT_pure (dT_val (dE_isi (dE_var (μ := true) (pv 1)) (pe_bltn (v := .ty "tuple") (by rfl) m_tuple (by decide +kernel) rfl) (by rfl) m_isinstance (by decide +kernel))))
    (nSs_one (nS_asg (K := K) (p := .nm 3) (ps_set (i := 3) sc_law_spoilt.nd rfl (.inl rfl) (nE_pure (dE_op o_addX (dE_var (μ := true) (pv 3)) (dE_lst (dA_cons (dE_slX (dE_var (μ := true) (pv 1)) (dO_some (dE_c (μ := true) pe_int)) dO_none) (dA_cons (dE_op o_addX (dE_var (μ := true) (pv 1)) (dE_slX (dE_var (μ := true) (pv 1)) (dO_some (dE_neg (dE_c (μ := true) pe_int))) dO_none)) (dA_cons (dE_rev (dE_var (μ := true) (pv 1))) (dA_cons (dE_callTy c_list (by rfl) m_list (by decide +kernel) (dA_cons (dE_var (μ := true) (pv 1)) (dA_nil (μ := true)))) (dA_nil (μ := true))))))))))))
    (nSs_one (nS_if (nT_pure (dT_val (dE_isi (dE_var (μ := true) (pv 1)) (pe_bltn (v := .ty "str") (by rfl) m_str (by decide +kernel) rfl) (by rfl) m_isinstance (by decide +kernel))))
    (nSs_one (nS_asg (K := K) (p := .nm 3) (ps_set (i := 3) sc_law_spoilt.nd rfl (.inl rfl) (nE_pure (dE_op o_addX (dE_var (μ := true) (pv 3)) (dE_lst (dA_cons (dE_op o_addX (dE_var (μ := true) (pv 1)) (dE_c (μ := true) pe_str)) (dA_cons (dE_slX (dE_var (μ := true) (pv 1)) dO_none (dO_some (dE_neg (dE_c (μ := true) pe_int)))) (dA_cons (dE_op o_addX (dE_var (μ := true) (pv 1)) (dE_c (μ := true) pe_str)) (dA_cons (dE_op o_addX (dE_var (μ := true) (pv 1)) (dE_op o_mulX (dE_c (μ := true) pe_str) (dE_c (μ := true) pe_int))) (dA_nil (μ := true))))))))))))
    (nSs_one (nS_if (nT_pure (dT_val (dE_isi (dE_var (μ := true) (pv 1)) (pe_bltn (v := .ty "int") (by rfl) m_int (by decide +kernel) rfl) (by rfl) m_isinstance (by decide +kernel))))
    (nSs_one (nS_asg (K := K) (p := .nm 3) (ps_set (i := 3) sc_law_spoilt.nd rfl (.inl rfl) (nE_pure (dE_op o_addX (dE_var (μ := true) (pv 3)) (dE_lst (dA_cons (dE_op o_addX (dE_var (μ := true) (pv 1)) (dE_c (μ := true) pe_int)) (dA_cons (dE_op o_subX (dE_var (μ := true) (pv 1)) (dE_c (μ := true) pe_int)) (dA_cons (dE_op o_addX (dE_var (μ := true) (pv 1)) (dE_c (μ := true) pe_int)) (dA_cons (dE_cmp (o_eq hr.units) (dE_var (μ := true) (pv 1)) (dE_c (μ := true) pe_int) (nomark _)) (dA_nil (μ := true))))))))))))
    nSs_nil)))))
  (nSs_one (nS_ret (ps_ret (nE_draw C__law_one (hr.mono (by omega)) (by rfl) (pv 0) (nA_cons (nE_pure (dE_var (μ := true) (pv 3))) nA_nil)))))))), fun ds b Q l h => ?_⟩
  obtain ⟨⟨x, m, rfl, hm, hx⟩, hb, q⟩ := h
  refine wIfTail (fun b' => b ≤ b' + 1) (fun b0 h0 => ?_) (fun base => ?_)
  · refine wOdd rfl (by omega) fun o1 b1 p1 h1 => wOdd rfl (by omega) fun o2 b2 p2 h2 => ⟨_, rfl, _, rfl, .list [o1, o2], rfl, [some .pool, some (.dat x), none, some (.dat (.list [o1, o2]))], rfl, ?_⟩
    have all : ∀ {L : List D}, (∀ d ∈ L, SpQ x d) → ∀ d ∈ [o1, o2] ++ L, SpQ x d := fun {L} h d hd => by
      rcases List.mem_append.mp hd with hd | hd
      · rcases List.mem_cons.mp hd with rfl | hd
        · exact p1.spq
        · rw [List.mem_singleton.mp hd]; exact p2.spq
      · exact h d hd
    cases x with
    | tuple xs =>
      have xl : xs.length ≤ 75 := Nat.le_trans hx.1 (by omega)
      let L : List D := [.tuple (xs.drop 1), .tuple (xs ++ xs.drop (xs.length - 1)), .tuple xs.reverse, .list xs]
      refine ⟨true, ev_oB (isiV rfl (isi_tuple _)), ?_⟩
      refine ⟨.list ([o1, o2] ++ L), ?_, [some .pool, some (.dat (.tuple xs)), none, some (.dat (.list ([o1, o2] ++ L)))], rfl, ?_⟩
      · refine ev_e2 (a := .list [o1, o2]) (b := .list L) rfl (ev_lstX (ev_cons ?_ (ev_cons ?_ (ev_cons rfl (ev_cons rfl rfl)))) (show 4 ≤ 1000 by decide)) rfl
        · exact ev_slX (d := .tuple xs) rfl rfl rfl (by show some (PyData.tuple (cutD xs (some 1) none)) = _; rw [cut1])
        · refine ev_e2 (a := .tuple xs) (b := .tuple (xs.drop (xs.length - 1))) rfl (ev_slX (d := .tuple xs) (l := some (-1)) rfl rfl rfl (by show some (PyData.tuple (cutD xs (some (-1)) none)) = _; rw [cut_last])) (addX_tup (by rw [List.length_drop]; omega))
      · refine wOne (items := [o1, o2] ++ L) rfl rfl rfl (by simp) (by simp [L]) (by omega) fun d b4 dm h4 => q d b4 ⟨_, rfl, all (fun d hd => ?_) d dm⟩ (by omega)
        simp only [L, List.mem_cons, List.not_mem_nil, or_false] at hd
        rcases hd with rfl | rfl | rfl | rfl
        · exact spq_drop
        · exact spq_more
        · exact spq_rev
        · exact spq_list
    | str z =>
      have zl : z.length ≤ 120 := Nat.le_trans hx.2 (by omega)
      let L : List D := [.str (z ++ Str.ofString "a"), .str (cutS z none (some (-1))), .str (z ++ Str.ofString "1"), .str (z ++ repS (Str.ofString "z") 8)]
      refine ⟨false, ev_oB (isiV rfl (isi_tuple _)), ⟨true, ev_oB (isiV rfl (isi_str _)), ?_⟩⟩
      refine ⟨.list ([o1, o2] ++ L), ?_, [some .pool, some (.dat (.str z)), none, some (.dat (.list ([o1, o2] ++ L)))], rfl, ?_⟩
      · refine ev_e2 (a := .list [o1, o2]) (b := .list L) rfl (ev_lstX (ev_cons ?_ (ev_cons ?_ (ev_cons ?_ (ev_cons ?_ rfl)))) (show 4 ≤ 1000 by decide)) rfl
        · exact ev_e2 (a := .str z) (b := .str (Str.ofString "a")) rfl rfl (addX_str (by have : (Str.ofString "a").length = 1 := rfl; omega))
        · exact ev_slX (d := .str z) (h := some (-1)) rfl rfl rfl rfl
        · exact ev_e2 (a := .str z) (b := .str (Str.ofString "1")) rfl rfl (addX_str (by have : (Str.ofString "1").length = 1 := rfl; omega))
        · exact ev_e2 (a := .str z) (b := .str (repS (Str.ofString "z") 8)) rfl rfl (addX_str (by have : (repS (Str.ofString "z") 8).length = 8 := (by decide +kernel); omega))
      · refine wOne (items := [o1, o2] ++ L) rfl rfl rfl (by simp) (by simp [L]) (by omega) fun d b4 dm h4 => q d b4 ⟨_, rfl, all (fun d hd => ?_) d dm⟩ (by omega)
        have app : ∀ y : Str, (∀ c ∈ y.cps.toList, c < 1114112) → y.length ≤ 8 → SpQ (.str z) (.str (z ++ y)) := fun y hy hl => spq_str (fun c hc => by
          rw [s_app] at hc
          rcases List.mem_append.mp hc with h | h
          · exact .inl h
          · exact .inr (hy c h)) (by rw [s_len, s_app, List.length_append, ← s_len, ← s_len]; omega)
        simp only [L, List.mem_cons, List.not_mem_nil, or_false] at hd
        rcases hd with rfl | rfl | rfl | rfl
        · exact app _ (by decide +kernel) (by decide +kernel)
        · refine spq_str (fun c hc => .inl ?_) (Nat.le_trans (cutS_length _ _ _) (by omega))
          unfold cutS at hc
          exact List.mem_of_mem_drop (List.mem_of_mem_take (by simpa using hc))
        · exact app _ (by decide +kernel) (by decide +kernel)
        · exact app _ (by decide +kernel) (by decide +kernel)
    | int i =>
      have ib : i.natAbs < 10 ^ 30 := big30 (by omega) hx
      let L : List D := [.int (i + 1), .int (i - 1), .int (i + 20), .bool (PyData.eqv (.int i) (.int 1))]
      refine ⟨false, ev_oB (isiV rfl (isi_tuple _)), ⟨false, ev_oB (isiV rfl (isi_str _)), ⟨true, ev_oB (isiV rfl (isi_int _)), ?_⟩⟩⟩
      refine ⟨.list ([o1, o2] ++ L), rfl, [some .pool, some (.dat (.int i)), none, some (.dat (.list ([o1, o2] ++ L)))], rfl, ?_⟩
      refine wOne (items := [o1, o2] ++ L) rfl rfl rfl (by simp) (by simp [L]) (by omega) fun d b4 dm h4 => q d b4 ⟨_, rfl, all (fun d hd => ?_) d dm⟩ (by omega)
      simp only [L, List.mem_cons, List.not_mem_nil, or_false] at hd
      rcases hd with rfl | rfl | rfl | rfl
      · exact spq_int (i := i) (fun _ _ _ h => h) ib (by omega)
      · exact spq_int (i := i) (fun _ _ _ h => h) ib (by omega)
      · exact spq_int (i := i) (fun _ _ _ h => h) ib (by omega)
      · exact spq_bool
    | bool t =>
      let i : Int := if t = true then 1 else 0
      have i2 : i.natAbs ≤ 1 := by cases t <;> decide
      let L : List D := [.int (i + 1), .int (i - 1), .int (i + 20), .bool (PyData.eqv (.bool t) (.int 1))]
      refine ⟨false, ev_oB (isiV rfl (isi_tuple _)), ⟨false, ev_oB (isiV rfl (isi_str _)), ⟨true, ev_oB (isiV rfl (isi_int _)), ?_⟩⟩⟩
      refine ⟨.list ([o1, o2] ++ L), rfl, [some .pool, some (.dat (.bool t)), none, some (.dat (.list ([o1, o2] ++ L)))], rfl, ?_⟩
      refine wOne (items := [o1, o2] ++ L) rfl rfl rfl (by simp) (by simp [L]) (by omega) fun d b4 dm h4 => q d b4 ⟨_, rfl, all (fun d hd => ?_) d dm⟩ (by omega)
      have hi : ∀ m k, m ≤ 5 → Bd m k (.bool t) → Bd m k (.int i) := fun m k _ h => by
        cases k with
        | zero => exact h
        | succ k => exact Nat.le_trans i2 (by omega)
      have ib : i.natAbs < 10 ^ 30 := Nat.lt_of_le_of_lt i2 (by decide)
      simp only [L, List.mem_cons, List.not_mem_nil, or_false] at hd
      rcases hd with rfl | rfl | rfl | rfl
      · exact spq_int (i := i) hi ib (by omega)
      · exact spq_int (i := i) hi ib (by omega)
      · exact spq_int (i := i) hi ib (by omega)
      · exact spq_bool
    | none =>
      refine ⟨false, ev_oB (isiV rfl (isi_tuple _)), ⟨false, ev_oB (isiV rfl (isi_str _)), ⟨false, ev_oB (isiV rfl (isi_int _)), ?_⟩⟩⟩
      exact wOne (items := [o1, o2]) rfl rfl rfl (by simp) (by simp) (by omega) fun d b4 dm h4 => q d b4 ⟨_, rfl, all (L := []) (fun d hd => nomatch hd) d dm⟩ (by omega)
    | list xs =>
      refine ⟨false, ev_oB (isiV rfl (isi_tuple _)), ⟨false, ev_oB (isiV rfl (isi_str _)), ⟨false, ev_oB (isiV rfl (isi_int _)), ?_⟩⟩⟩
      exact wOne (items := [o1, o2]) rfl rfl rfl (by simp) (by simp) (by omega) fun d b4 dm h4 => q d b4 ⟨_, rfl, all (L := []) (fun d hd => nomatch hd) d dm⟩ (by omega)
    | dict xs =>
      refine ⟨false, ev_oB (isiV rfl (isi_tuple _)), ⟨false, ev_oB (isiV rfl (isi_str _)), ⟨false, ev_oB (isiV rfl (isi_int _)), ?_⟩⟩⟩
      exact wOne (items := [o1, o2]) rfl rfl rfl (by simp) (by simp) (by omega) fun d b4 dm h4 => q d b4 ⟨_, rfl, all (L := []) (fun d hd => nomatch hd) d dm⟩ (by omega)
  · by_cases ht : ∃ xs, x = .tuple xs
    · obtain ⟨xs, rfl⟩ := ht
      have xl : xs.length ≤ 75 := Nat.le_trans hx.1 (by omega)
      by_cases ne : xs = []
      · subst ne
        exact ⟨true, ev_oB (isiV rfl (isi_tuple _)), ⟨false, rfl, base b (by omega)⟩⟩
      · have x0 : 0 < xs.length := by
          cases xs with
          | nil => exact (ne rfl).elim
          | cons _ _ => simp
        have e0 : (!xs.isEmpty) = true := by
          cases xs with
          | nil => exact (ne rfl).elim
          | cons _ _ => rfl
        refine ⟨true, ev_oB (isiV rfl (isi_tuple _)), ⟨true, by show some (!xs.isEmpty) = some true; rw [e0], ?_⟩⟩
        refine wNext (m := 6) rfl rfl (by decide) (by decide) (by omega) fun v b1 v0 v1 h1 => ⟨.int 0, rfl, _, rfl, _, rfl, ?_⟩
        refine iteB (c := decide (v > 0)) (fun hv => ?_) (fun hv => ?_)
        · refine wNext (m := xs.length) rfl rfl (by omega) (by omega) (by omega) fun v2 b2 v20 v21 h2 => ?_
          obtain ⟨j, rfl⟩ := Int.eq_ofNat_of_zero_le v20
          have hj : j < xs.length := by omega
          obtain ⟨y, hy⟩ : ∃ y, xs[j]? = some y := ⟨_, List.getElem?_eq_getElem hj⟩
          refine ⟨[some .pool, some (.dat (.tuple xs)), some (.dat (.int j)), none], rfl, ?_⟩
          refine ⟨.tuple (xs.take j), ev_slX (d := .tuple xs) (h := some (j : Int)) rfl rfl rfl (by show some (PyData.tuple (cutD xs none (some (j : Int)))) = _; rw [cut_to (by omega)]), rfl, y, atI_nat hy, _, rfl, rfl, ⟨y, m, rfl, hm, hx.2 y (List.mem_of_getElem? hy)⟩, by omega, fun d n' ⟨y', e', sp⟩ hn => ?_⟩
          cases e'
          refine ⟨_, rfl, .tuple [d], rfl, .tuple (xs.take j ++ [d]), addX_tup (by rw [List.length_take]; simp; omega), .tuple (xs.drop (j + 1)), ?_, .tuple (xs.set j d), ?_, ?_⟩
          · exact ev_slX (d := .tuple xs) (l := some ((j : Int) + 1)) rfl rfl rfl (by show some (PyData.tuple (cutD xs (some ((j : Int) + 1)) none)) = _; rw [show ((j : Int) + 1) = ((j + 1 : Nat) : Int) by omega, cut_fr (by omega)])
          · rw [addX_tup (by rw [List.length_append, List.length_take, List.length_drop]; simp; omega), List.set_eq_take_append_cons_drop, if_pos hj, List.append_assoc]
            rfl
          · exact q _ n' ⟨_, rfl, spq_set hy sp⟩ (by omega)
        · exact base b1 (by omega)
    · refine ⟨false, ev_oB (isiV rfl ((isi_tuple _).trans ?_)), base b (by omega)⟩
      cases x <;> first | rfl | exact (ht ⟨_, rfl⟩).elim
theorem ok_neverN {k n : Nat} {f : Addr} {fd : FuncData} {ps : List Str} {G : GF} (hg : ∀ ds b Q, ¬ G.f ds b Q) : FnOk P w K mg base CX0 k f fd ps (spN n G) :=
  ⟨fun vs H Q E h => by
    obtain ⟨g, M, ws, ds, b, _, _, _, _, _, _, z⟩ := h
    exact (hg _ _ _ z).elim, fun A outer s H args us vs Q E _ _ _ _ h => by
    obtain ⟨g, M, ws, ds, b, _, _, _, _, _, _, z⟩ := h
    exact (hg _ _ _ z).elim⟩
theorem ok_spoilt {f : Addr} {fd : FuncData} (F : Fun K "_law_spoilt" "_law_spoilt" s_law_spoilt f fd) (b : Binds K fd ["_law_drawn", "_law_thing"] []) (g : mg "_law_spoilt" = some (.ref f)) (m_isinstance : mg "isinstance" = none) (m_tuple : mg "tuple" = none) (m_len : mg "len" = none) (m_list : mg "list" = none) (m_str : mg "str" = none) (m_int : mg "int" = none)
    (C__law_next : Cl P w K mg base 1 "_law_next" ["_law_drawn", "_law_below"] (spN 1 gNext)) (C__law_one : Cl P w K mg base 2 "_law_one" ["_law_drawn", "_law_wares"] (spN 1 gOne)) (C__law_odd : Cl P w K mg base 3 "_law_odd" ["_law_drawn"] (spN 0 gOdd)) :
    FnOk P w K mg base CX0 15 f fd ["_law_drawn", "_law_thing"] (spN 1 (gSp 12)) := by
  have st : ∀ n : Nat, FnOk P w K mg base CX0 (3 + n) f fd ["_law_drawn", "_law_thing"] (spN 1 (gSp n)) := by
    intro n
    induction n with
    | zero =>
      refine ok_neverN fun ds b Q h => ?_
      obtain ⟨⟨x, m, _, _, z⟩, _⟩ := h
      exact z
    | succ n ih => exact ok_spoiltS (Nat.le_add_right 3 n) F m_isinstance m_tuple m_len m_list m_str m_int C__law_next C__law_one C__law_odd ⟨f, fd, ih, g, F.kp, b⟩
  exact st 12
end
end Dl
namespace Dl
open PySem PySem.Spec PyProof.Rows L2 Rt
structure WorldP (d : D) : Prop where
  ex : ∃ (n : Int) (ks ss ws : List D), d = .tuple [.int n, .tuple ks, .tuple ss, .tuple ws] ∧ 1 ≤ n ∧ n ≤ 6 ∧ Kds ks ∧ ss.length ≤ 6 ∧ (∀ s ∈ ss, SrcP n ks s) ∧ 1 ≤ ws.length ∧ ws.length ≤ 8 ∧ ∀ w ∈ ws, WayP n ks w
def gKinds : GF := gAny 10 (fun ds => ∃ m : Int, ds = [.int m] ∧ 1 ≤ m ∧ m ≤ 4) (fun ds d => ∃ (m : Int) (ks : List D), ds = [.int m] ∧ d = .tuple ks ∧ Kds ks)
def gWorld : GF := gAny 500 (fun ds => ∃ wide old : Int, ds = [.int wide, .int old] ∧ 1 ≤ wide ∧ wide ≤ 6 ∧ 0 ≤ old ∧ old ≤ 20) (fun ds d => WorldP d)
theorem lst6 {α : Type} {a b c d e f : α} {i : Int} (h0 : 0 ≤ i) (h1 : i < 6) : ∃ x, L2.atI [a, b, c, d, e, f] i = some x ∧ (x = a ∨ x = b ∨ x = c ∨ x = d ∨ x = e ∨ x = f) := by
  obtain ⟨x, e, m, _⟩ := atI_in (xs := [a, b, c, d, e, f]) h0 h1
  exact ⟨x, e, by simpa using m⟩
section
variable {P : Program} {w : World} {K : PySem.W.Frag} {mg : Str → Option Value} {base : Heap}
theorem ok_world {f : Addr} {fd : FuncData} (F : Fun K "_law_world" "_law_world" s_law_world f fd) (m_range : mg "range" = none) (m_tuple : mg "tuple" = none) (C__law_next : Cl P w K mg base 1 "_law_next" ["_law_drawn", "_law_below"] (spN 1 gNext)) (C__law_kinds : Cl P w K mg base 3 "_law_kinds" ["_law_drawn", "_law_many"] (spN 1 gKinds)) (C__law_source : Cl P w K mg base 3 "_law_source" ["_law_drawn", "_law_size", "_law_kinds_here", "_law_old"] (spN 3 gSource)) (C__law_way : Cl P w K mg base 4 "_law_way" ["_law_drawn", "_law_size", "_law_kinds_here", "_law_old"] (spN 3 gWay)) : FnOk P w K mg base CX0 5 f fd ["_law_drawn", "_law_wide", "_law_old"] (spN 2 gWorld) := by
  refine okFnN F sc_law_world rfl fun cdv A outer s H E hr => ⟨_, (nSs_cons (nS_asg (K := K) (p := .nm 3) (ps_set (i := 3) sc_law_world.nd rfl (.inr rfl) (nE_op o_add (nE_pure (dE_c (μ := true) pe_int)) (nE_draw C__law_next (hr.mono (by omega)) (by rfl) (pv 0) (nA_cons (nE_pure (dE_var (μ := true) (pv 1))) nA_nil)))))
  (nSs_cons (nS_asg (K := K) (p := .nm 4) (ps_set (i := 4) sc_law_world.nd rfl (.inr rfl) (nE_draw C__law_kinds (hr.mono (by omega)) (by rfl) (pv 0) (nA_cons (nE_op o_add (nE_pure (dE_c (μ := true) pe_int)) (nE_draw C__law_next (hr.mono (by omega)) (by rfl) (pv 0) (nA_cons (nE_pure (dE_c (μ := true) pe_int)) nA_nil))) nA_nil))))
  (nSs_cons (nS_asg (K := K) (p := .nm 5) (ps_set (i := 5) sc_law_world.nd rfl (.inl rfl) (nE_ix (nE_pure (dE_lst (dA_cons (dE_c (μ := true) pe_int) (dA_cons (dE_c (μ := true) pe_int) (dA_cons (dE_c (μ := true) pe_int) (dA_cons (dE_c (μ := true) pe_int) (dA_cons (dE_c (μ := true) pe_int) (dA_cons (dE_c (μ := true) pe_int) (dA_nil (μ := true)))))))))) (nE_draw C__law_next (hr.mono (by omega)) (by rfl) (pv 0) (nA_cons (nE_pure (dE_c (μ := true) pe_int)) nA_nil)))))
  (nSs_cons (nS_asg (K := K) (p := .nm 6) (ps_set (i := 6) sc_law_world.nd rfl (.inl rfl) (nE_callTy c_tuple (by rfl) m_tuple (by decide +kernel) (nA_cons (nE_lc (K := K) (p := (.nm 8)) (pe_lc (own := [("_law_k", 8)]) (g := gP K (.nm 8)) rfl sc_law_world.nd (nI_pure (dI_ran1 (by rfl) m_range (dA_cons (dE_var (μ := true) (pv 5)) (dA_nil (μ := true))))) (blkOk_by (own := [("_law_k", 8)]) (N := ["_law_drawn", "_law_wide", "_law_old", "_law_size", "_law_kinds_here", "_law_many", "_law_sources", "_law_ways", "_law_k"]) (sc := defScope s_law_world) (by decide +kernel)) (fun _ _ _ _ _ => (pg_name (i := 8) sc_law_world.nd rfl (.inl rfl))) (fun _ _ _ _ _ => nTs_nil) (fun _ _ _ _ _ => (nE_draw C__law_source (hr.mono (by omega)) (by rfl) (pv 0) (nA_cons (nE_pure (dE_var (μ := true) (pv 3))) (nA_cons (nE_pure (dE_var (μ := true) (pv 4))) (nA_cons (nE_pure (dE_var (μ := true) (pv 2))) nA_nil))))))) nA_nil))))
  (nSs_cons (nS_asg (K := K) (p := .nm 5) (ps_set (i := 5) sc_law_world.nd rfl (.inl rfl) (nE_ix (nE_pure (dE_lst (dA_cons (dE_c (μ := true) pe_int) (dA_cons (dE_c (μ := true) pe_int) (dA_cons (dE_c (μ := true) pe_int) (dA_cons (dE_c (μ := true) pe_int) (dA_cons (dE_c (μ := true) pe_int) (dA_cons (dE_c (μ := true) pe_int) (dA_nil (μ := true)))))))))) (nE_draw C__law_next (hr.mono (by omega)) (by rfl) (pv 0) (nA_cons (nE_pure (dE_c (μ := true) pe_int)) nA_nil)))))
  (nSs_cons (nS_asg (K := K) (p := .nm 7) (ps_set (i := 7) sc_law_world.nd rfl (.inl rfl) (nE_callTy c_tuple (by rfl) m_tuple (by decide +kernel) (nA_cons (nE_lc (K := K) (p := (.nm 8)) (pe_lc (own := [("_law_k", 8)]) (g := gP K (.nm 8)) rfl sc_law_world.nd (nI_pure (dI_ran1 (by rfl) m_range (dA_cons (dE_var (μ := true) (pv 5)) (dA_nil (μ := true))))) (blkOk_by (own := [("_law_k", 8)]) (N := ["_law_drawn", "_law_wide", "_law_old", "_law_size", "_law_kinds_here", "_law_many", "_law_sources", "_law_ways", "_law_k"]) (sc := defScope s_law_world) (by decide +kernel)) (fun _ _ _ _ _ => (pg_name (i := 8) sc_law_world.nd rfl (.inl rfl))) (fun _ _ _ _ _ => nTs_nil) (fun _ _ _ _ _ => (nE_draw C__law_way (hr.mono (by omega)) (by rfl) (pv 0) (nA_cons (nE_pure (dE_var (μ := true) (pv 3))) (nA_cons (nE_pure (dE_var (μ := true) (pv 4))) (nA_cons (nE_pure (dE_var (μ := true) (pv 2))) nA_nil))))))) nA_nil))))
  (nSs_one (nS_retL (ps_ret (dE_tup (dA_cons (dE_var (μ := true) (pv 3)) (dA_cons (dE_var (μ := true) (pv 4)) (dA_cons (dE_var (μ := true) (pv 6)) (dA_cons (dE_var (μ := true) (pv 7)) (dA_nil (μ := true)))))))))))))))), fun ds b Q l h => ?_⟩
  obtain ⟨⟨wide, old, rfl, w1, w6, o0, o20⟩, hb, q⟩ := h
  refine ⟨.int 1, rfl, wNext (m := wide) rfl rfl (by omega) (by omega) (by omega) fun v1 b1 v10 v11 h1 => ⟨_, rfl, [some .pool, some (.dat (.int wide)), some (.dat (.int old)), some (.dat (.int (1 + v1))), none, none, none, none, none], rfl, ?_⟩⟩
  refine ⟨rfl, .int 1, rfl, wNext (m := 4) rfl rfl (by decide) (by decide) (by omega) fun v2 b2 v20 v21 h2 => ⟨_, rfl, _, rfl, rfl, ⟨_, rfl, by omega, by omega⟩, by omega, fun d b3 hd h3 => ?_⟩⟩
  obtain ⟨m, ks, _, rfl, hk⟩ := hd
  refine ⟨[some .pool, some (.dat (.int wide)), some (.dat (.int old)), some (.dat (.int (1 + v1))), some (.dat (.tuple ks)), none, none, none, none], rfl, ?_⟩
  refine ⟨_, rfl, wNext (m := 6) rfl rfl (by decide) (by decide) (by omega) fun v4 b4 v40 v41 h4 => ?_⟩
  obtain ⟨x, ex, xs⟩ := lst6 (a := PyData.int 1) (b := .int 1) (c := .int 2) (d := .int 3) (e := .int 6) (f := .int 0) v40 v41
  obtain ⟨m1, rfl, m10, m16⟩ : ∃ m : Int, x = .int m ∧ 0 ≤ m ∧ m ≤ 6 := by
    rcases xs with rfl | rfl | rfl | rfl | rfl | rfl <;> exact ⟨_, rfl, by decide, by decide⟩
  refine ⟨_, ex, [some .pool, some (.dat (.int wide)), some (.dat (.int old)), some (.dat (.int (1 + v1))), some (.dat (.tuple ks)), some (.dat (.int m1)), none, none, none], rfl, ?_⟩
  refine ⟨rgD 0 m1.toNat, ev_itG (ds := [.int m1]) rfl (ran1_ok (by omega) (by omega)), ?_⟩
  have lm : (rgD 0 m1.toNat).length = m1.toNat := rgD_len _ _
  refine lcN_all 9 (SrcP (1 + v1) ks) (rgD 0 m1.toNat) b4 _ (by rw [lm]; omega) (fun x hx b Q hb q => ?_) (fun ss b5 ls hss h5 => ?_)
  · obtain ⟨i, _, rfl⟩ := List.mem_map.mp hx
    refine ⟨_, rfl, rfl, .int (1 + v1), rfl, .tuple ks, rfl, .int old, rfl, _, rfl, _, rfl, _, rfl, rfl, ⟨1 + v1, ks, old, rfl, hk, by omega, by omega, o0, o20⟩, hb, fun d n' ⟨_, _, _, e, pd⟩ hn => ?_⟩
    cases e
    exact q d n' pd hn
  rw [lm] at ls h5
  refine ⟨_, rfl, .tuple ss, rfl, [some .pool, some (.dat (.int wide)), some (.dat (.int old)), some (.dat (.int (1 + v1))), some (.dat (.tuple ks)), some (.dat (.int m1)), some (.dat (.tuple ss)), none, none], rfl, ?_⟩
  refine ⟨_, rfl, wNext (m := 6) rfl rfl (by decide) (by decide) (by omega) fun v6 b6 v60 v61 h6 => ?_⟩
  obtain ⟨y, ey, ys⟩ := lst6 (a := PyData.int 1) (b := .int 2) (c := .int 2) (d := .int 3) (e := .int 5) (f := .int 8) v60 v61
  obtain ⟨m2, rfl, m20, m28⟩ : ∃ m : Int, y = .int m ∧ 1 ≤ m ∧ m ≤ 8 := by
    rcases ys with rfl | rfl | rfl | rfl | rfl | rfl <;> exact ⟨_, rfl, by decide, by decide⟩
  refine ⟨_, ey, [some .pool, some (.dat (.int wide)), some (.dat (.int old)), some (.dat (.int (1 + v1))), some (.dat (.tuple ks)), some (.dat (.int m2)), some (.dat (.tuple ss)), none, none], rfl, ?_⟩
  refine ⟨rgD 0 m2.toNat, ev_itG (ds := [.int m2]) rfl (ran1_ok (by omega) (by omega)), ?_⟩
  have lm2 : (rgD 0 m2.toNat).length = m2.toNat := rgD_len _ _
  refine lcN_all 40 (WayP (1 + v1) ks) (rgD 0 m2.toNat) b6 _ (by rw [lm2]; omega) (fun x hx b Q hb q => ?_) (fun ws b7 lw hws h7 => ?_)
  · obtain ⟨i, _, rfl⟩ := List.mem_map.mp hx
    refine ⟨_, rfl, rfl, .int (1 + v1), rfl, .tuple ks, rfl, .int old, rfl, _, rfl, _, rfl, _, rfl, rfl, ⟨1 + v1, ks, old, rfl, hk, by omega, by omega, o0, o20⟩, hb, fun d n' ⟨_, _, _, e, pd⟩ hn => ?_⟩
    cases e
    exact q d n' pd hn
  rw [lm2] at lw h7
  refine ⟨_, rfl, .tuple ws, rfl, [some .pool, some (.dat (.int wide)), some (.dat (.int old)), some (.dat (.int (1 + v1))), some (.dat (.tuple ks)), some (.dat (.int m2)), some (.dat (.tuple ss)), some (.dat (.tuple ws)), none], rfl, ?_⟩
  refine ⟨_, rfl, ?_⟩
  exact q _ b7 ⟨1 + v1, ks, ss, ws, rfl, by omega, by omega, hk, by omega, hss, by omega, by omega, hws⟩ (by omega)
end
end Dl
namespace Rt
open PySem PySem.Spec PyProof.Rows L2
section
variable {prog : Program} {w : World} {A : Around} {E : Value → Shared → Prop} {s : Shared}
theorem collect_tup {t : Addr} {us : List Value} {Q : List Value → Shared → Prop} (ht : IsTup s.heap t us.toArray)
    (hq : Q us { s with heap := (s.heap.push (seqObj "list" #[] 0)).update s.heap.objs.size (Obj.mapSeq (· ++ us.toArray)) }) (hz : us.length ≤ sizeLine) :
    wpAny (model prog w) A (collect (.ref t)) Q E s := by
  obtain ⟨ob, hob, hcl, m, hdt⟩ := id ht
  unfold collect
  refine wpAny_bind (wpAny_runValue (codeAny_builtin entry_proto_collect' ?_))
  show wpAny _ _ (do again (.builtin "list.__iadd__" ⟨[← newList [], .ref t], []⟩)) _ _ s
  refine wpAny_bind (wpAny_newList (wpAny_pure ⟨Code.quiet_builtin _ (by decide +kernel), codeAny_builtin entry_list_iadd' ?_⟩))
  show wpAny _ _ (Builtin.List.listExtendWith (.ref s.heap.objs.size) (.ref t) (.ref s.heap.objs.size)) _ _ { s with heap := s.heap.push (seqObj "list" #[] 0) }
  unfold Builtin.List.listExtendWith
  have hob' : (s.heap.push (seqObj "list" #[] 0)).get? t = some ob := Heap.get?_push_of_some _ hob
  refine wpAny_bind (wpAny_typeOf (T := "tuple") ⟨ob, hob', hcl⟩ ?_)
  have htt : (Value.type "tuple" == Value.type "tuple") = true := by rfl
  rw [if_pos (by rw [htt]; simp)]
  refine wpAny_bind (listItems_at hob' hdt ?_)
  refine wpAny_bind (listItems_at (xs := #[]) (n := 0) (Heap.get?_push_size _ rfl) rfl ?_)
  rw [if_neg (by simp)]
  refine wpAny_bind (listUpdate_at (xs := #[]) (n := 0) (Heap.get?_push_size _ rfl) rfl ?_ (Nat.zero_le _) (by show (#[] ++ us.toArray).size ≤ sizeLine + 1; simp only [Array.size_append, List.size_toArray, List.length_nil]; omega))
  refine wpAny_pure ?_
  show wpAny (model prog w) A (do
      let ld ← load s.heap.objs.size
      match ld.data with
      | .seq xs _ => pure xs.toList
      | _ => unsupported "internal:collect") Q E { s with heap := (s.heap.push (seqObj "list" #[] 0)).update s.heap.objs.size (Obj.mapSeq (· ++ us.toArray)) }
  refine wpAny_bind (wpAny_load (get?_update_seq (Heap.get?_push_size _ rfl) _) ?_)
  show wpAny _ _ (pure ((#[] : Array Value) ++ us.toArray).toList) Q E _
  rw [show ((#[] : Array Value) ++ us.toArray).toList = us by simp]
  exact wpAny_pure hq
theorem sorted_tup {t : Addr} {us : List Value} {ns : List Int} {Q : Value → Shared → Prop} (ht : IsTup s.heap t us.toArray) (hI : IntsAre us ns) (h64 : us.length < 64)
    (hq : ∀ (out : Array Value) (ns' : List Int), IntsAre out.toList ns' → ns'.Perm ns → ns'.Pairwise (· ≤ ·) → Q (.ref (s.heap.objs.size + 1)) { s with heap := sortedAll s.heap us out }) :
    wpAny (model prog w) A (call (.builtin "sorted") [.ref t]) Q E s := by
  refine Calls.call_function_entry kind_sorted plain_sorted entry_sorted (args_sorted1 _) ?_
  unfold Builtin.«sorted»
  refine wpAny_bind (m := checkCount "sorted" 1 1 _) (wpAny_pure ?_)
  refine wpAny_bind (collect_tup ht ?_ (small64 h64))
  refine wpAny_bind (wpAny_newList ?_)
  have e1 : ((s.heap.push (seqObj "list" #[] 0)).update s.heap.objs.size (Obj.mapSeq (· ++ us.toArray))).objs.size = s.heap.objs.size + 1 := by
    rw [Heap.size_update, size_push']
  have hoL : (((s.heap.push (seqObj "list" #[] 0)).update s.heap.objs.size (Obj.mapSeq (· ++ us.toArray))).push (seqObj "list" us.toArray 0)).get? (s.heap.objs.size + 1) = some (seqObj "list" us.toArray 0) := by
    rw [← e1]; exact Heap.get?_push_size _ rfl
  show wpAny _ _ _ _ _ { s with heap := ((s.heap.push (seqObj "list" #[] 0)).update s.heap.objs.size (Obj.mapSeq (· ++ us.toArray))).push (seqObj "list" us.toArray 0) }
  rw [e1]
  refine wpAny_bind (wpAny_holding (wpAny_call_entry slot_list_sort ⟨_, hoL, rfl⟩ entry_list_sort (list_sort_tree hoL hI h64 fun out ns' a1 a2 a3 => ⟨_, rfl, ?_⟩) (args_list_sort _)))
  exact wpAny_pure ⟨_, rfl, hq out ns' a1 a2 a3⟩
end
section
variable {X : Cx}
def rSortedTp (K : PySem.W.Frag) : List V → Hp → VK → Prop := fun vs H Q => ∃ (a : Addr) (ns : List Int), vs = [V.ref a] ∧ SqT K H a (ns.map V.int) ∧ ns.length < 64 ∧
  ∀ (ns' : List Int) (p : Addr) (H' : Hp), ns'.Perm ns → ns'.Pairwise (· ≤ ·) → H p = none → H' = upd H p (.lst (ns'.map V.int)) → Q (.ref p) H'
theorem cr_sortedTp : CallR X (.builtin "sorted") (rSortedTp X.K) := by
  intro pn s σ H vs us Q I r h
  obtain ⟨a, ns, rfl, hs, h64, q⟩ := h
  obtain ⟨its, rv, hl, _⟩ := I.tuple hs
  rw [Vals.ref1 r]
  have hi := rv.ints
  refine sorted_tup hl hi (by rw [hi.length]; exact h64) fun out ns' h1 h2 h3 => ?_
  obtain ⟨ep, he'⟩ := PyProof.Rows.sortedAll_at s.heap its out
  have hln : (ns'.map V.int).length ≤ sizeLine := by rw [List.length_map, h2.length_eq]; exact small64 h64
  exact ⟨.ref _, upd H (s.heap.objs.size + 1) (.lst (ns'.map V.int)), I.laid (t' := s.toks) (fun _ _ => PyProof.Rows.sortedAll_old) (Nat.le_succ _) ⟨hln, out.toList, ep, vals_of_ints h1, he'⟩, rfl, q ns' _ _ h2 h3 (I.hok.fresh (Nat.le_succ _)) rfl⟩
end
end Rt
namespace Dl
open PySem PySem.Spec PyProof.Rows L2 Rt
theorem all_map {α β : Type} {f : α → β} {Pc : α → Prop} : ∀ {l : List β}, (∀ x ∈ l, ∃ c, x = f c ∧ Pc c) → ∃ cs : List α, l = cs.map f ∧ ∀ c ∈ cs, Pc c
  | [], _ => ⟨[], rfl, fun c h => nomatch h⟩
  | b :: r, h => by
    obtain ⟨c, rfl, pc⟩ := h b List.mem_cons_self
    obtain ⟨cs, rfl, al⟩ := all_map (l := r) fun x hx => h x (List.mem_cons_of_mem _ hx)
    exact ⟨c :: cs, rfl, fun d hd => by
      rcases List.mem_cons.mp hd with e | e
      · rw [e]; exact pc
      · exact al d e⟩
theorem join0 : ∀ cs : List Nat, Txt.join ⟨#[]⟩ (cs.map fun c => (⟨#[c]⟩ : Str)) = ⟨cs.toArray⟩ := by
  intro cs
  rw [TL.join_eq]
  induction cs with
  | nil => rfl
  | cons c r ih =>
    cases r with
    | nil => rfl
    | cons d r =>
      show (⟨#[c]⟩ : Str) ++ ⟨#[]⟩ ++ Str.join ⟨#[]⟩ ((d :: r).map fun c => (⟨#[c]⟩ : Str)) = _
      rw [ih]
      show (⟨(#[c] ++ #[]) ++ (d :: r).toArray⟩ : Str) = ⟨(c :: d :: r).toArray⟩
      simp
theorem str_app (x y : Str) : (x ++ y).cps.toList = x.cps.toList ++ y.cps.toList := by
  show (x.cps ++ y.cps).toList = _
  rw [Array.toList_append]
theorem str_len (x : Str) : x.length = x.cps.toList.length := by
  show x.cps.size = _
  rw [Array.length_toList]
structure NameS (z : Str) : Prop where
  lo : 1 ≤ z.length
  hi : z.length ≤ 8
  all : ∀ c ∈ z.cps.toList, c ∈ LET
theorem NameS.is {z : Str} (h : NameS z) : isName (.str z) = true := by
  unfold isName
  have h1 := h.lo
  have h2 := h.hi
  rw [Bool.and_eq_true_iff, Bool.and_eq_true_iff]
  exact ⟨⟨decide_eq_true (by omega), decide_eq_true (by omega)⟩, List.all_eq_true.mpr fun c hc => decide_eq_true (h.all c hc)⟩
section
variable {P : Program} {w : World} {K : PySem.W.Frag} {mg : Str → Option Value} {base : Heap}
def spKindsF : Sp := fun vs H Q _ => ∃ (g : Gd) (B : Nat) (m : Int), vs = [.ref g.d, .int m] ∧ Fu g B H ∧ 10 ≤ B ∧ 1 ≤ m ∧ m ≤ 4 ∧
  ∀ p (ks : List Str) H' H6, ks.length = m.toNat → (∀ k ∈ ks, NameS k) → TupF H' p (ks.map V.str) → Kp g H H6 → Fu g 0 H6 → H6 p = none → Fu g (B - 10) H' → Kp g H H' → Q (.ref p) H'
theorem ok_kindsF' {f : Addr} {fd : FuncData} (F : Fun K "_law_kinds" "_law_kinds" s_law_kinds f fd) (m_range : mg "range" = none) (m_sorted : mg "sorted" = none) (m_tuple : mg "tuple" = none)
    (C__law_next : Cl P w K mg base 1 "_law_next" ["_law_drawn", "_law_below"] spNext) (C__law_one : Cl P w K mg base 2 "_law_one" ["_law_drawn", "_law_wares"] (spOne K)) :
    FnOk P w K mg base CX0 3 f fd ["_law_drawn", "_law_many"] spKindsF := by
  refine F.ok sc_law_kinds (fun vs H Q E h => ?_) (fun cdv A outer s H vs Q E hr h => ?_)
  · obtain ⟨g, B, m, rfl, _⟩ := h
    rfl
  · obtain ⟨g, B, m, rfl, hF, hB, hm1, hm4, q⟩ := h
    refine ⟨_, (pss_cons (ps_set (i := 2) sc_law_kinds.nd rfl (.inr rfl) (pe_join pe_str (pe_lc (own := [("_law_k", 6)]) (g := (gName 6)) (tt := tYes) rfl sc_law_kinds.nd (pi_range1 (by rfl) m_range (pa_cons (pe_cl C__law_next (hr.mono (by omega)) (by rfl) (pa_cons (pv 0) (pa_cons pe_int pa_nil))) pa_nil)) (blkOk_by (own := [("_law_k", 6)]) (N := ["_law_drawn", "_law_many", "_law_stem", "_law_first_here", "_law_way_here", "_law_found", "_law_k"]) (sc := defScope s_law_kinds) (by decide +kernel)) (fun _ _ _ _ _ => (pg_name (i := 6) sc_law_kinds.nd rfl (.inl rfl))) (fun _ _ _ _ _ => pts_nil) (fun _ _ _ _ _ => (pe_cl C__law_one (hr.mono (by omega)) (by rfl) (pa_cons (pv 0) (pa_cons pe_str pa_nil)))))))
  (pss_cons (ps_set (i := 3) sc_law_kinds.nd rfl (.inr rfl) (pe_cl C__law_next (hr.mono (by omega)) (by rfl) (pa_cons (pv 0) (pa_cons pe_int pa_nil))))
  (pss_cons (ps_set (i := 4) sc_law_kinds.nd rfl (.inl rfl) (pe_cl C__law_next (hr.mono (by omega)) (by rfl) (pa_cons (pv 0) (pa_cons pe_int pa_nil))))
  (pss_cons (ps_setLc (i := 5) (own := [("_law_k", 6)]) (g := (gName 6)) (tt := tYes) rfl sc_law_kinds.nd rfl rfl (sw_true rfl rfl rfl (by decide +kernel)) (pi_range1 (by rfl) m_range (pa_cons (pv 1) pa_nil)) (blkOk_by (own := [("_law_k", 6)]) (N := ["_law_drawn", "_law_many", "_law_stem", "_law_first_here", "_law_way_here", "_law_found", "_law_k"]) (sc := defScope s_law_kinds) (by decide +kernel)) (fun _ _ _ _ _ => (pg_name (i := 6) sc_law_kinds.nd rfl (.inl rfl))) (fun _ _ _ _ _ => pts_nil) (fun _ _ _ _ _ => (pe_op op_add_str (pv 2) (pe_ix ix_str pe_str (pe_op op_addL (pv 3) (pv 6)) (fun _ _ => rfl)))))
  (pss_cons (ps_if (pt_cmpR op_eq (pv 4) pe_int (nomark _))
    (pss_one (ps_setLc (i := 5) (own := [("_law_k", 6)]) (g := (gName 6)) (tt := tYes) rfl sc_law_kinds.nd rfl rfl (sw_true rfl rfl rfl (by decide +kernel)) (pi_range1 (by rfl) m_range (pa_cons (pv 1) pa_nil)) (blkOk_by (own := [("_law_k", 6)]) (N := ["_law_drawn", "_law_many", "_law_stem", "_law_first_here", "_law_way_here", "_law_found", "_law_k"]) (sc := defScope s_law_kinds) (by decide +kernel)) (fun _ _ _ _ _ => (pg_name (i := 6) sc_law_kinds.nd rfl (.inl rfl))) (fun _ _ _ _ _ => pts_nil) (fun _ _ _ _ _ => (pe_slice sl_str (pe_op op_add_str (pe_op op_repS pe_str (pe_op op_addL (pv 6) pe_int)) (pv 2)) po_none (po_some (pe_op op_addL (pe_op op_addL (pe_op op_subL pe_int (pv 1)) (pv 6)) pe_int))))))
    pss_nil)
  (pss_one (ps_ret (pe_callTy call_tupF (by rfl) m_tuple (by decide +kernel) (pa_cons (pe_callB cr_sortedS (by rfl) m_sorted (by decide +kernel) (pa_cons (pv 5) pa_nil)) pa_nil))))))))), ?_⟩
    -- the stem
    refine ⟨⟨_, rfl⟩, .ref g.d, rfl, g, B, 8, rfl, hF, by omega, by decide, by decide, fun n H1 n0 n8 F1 K1 => ⟨n, rfl, by omega, by omega, fun D nD => ?_⟩⟩
    refine lcR (g := g) (B := B - 1) 1 (fun _ y => ∃ c : Nat, y = V.str ⟨#[c]⟩ ∧ c ∈ LET) (fun i acc => acc.length = i) nD F1 (by omega) (by omega) (fun _ _ _ _ h => h) rfl (fun i H2 B' hi F2 hB' K2 Qk Qs qk qs => ?_) (fun H2 acc F2 K2 eD el pl al => ?_)
    · refine ⟨rfl, .ref g.d, rfl, g, B', _, rfl, F2, hB', .inr (.inr ⟨_, rfl, by decide, by decide, fun c H3 hc F3 K3 => ?_⟩)⟩
      exact qk _ _ F3 K3 ⟨c, rfl, hc⟩ (fun acc h => by rw [List.length_append, h]; rfl)
    obtain ⟨cs, rfl, hcs⟩ := all_map al
    rw [List.length_map] at pl
    refine ⟨_, D, cs.map (fun c => (⟨#[c]⟩ : Str)), rfl, rfl, .inl (SqL.of (by rw [eD, List.map_map]; rfl)), ?_, ?_⟩
    · show ((cs.map (fun c => (⟨#[c]⟩ : Str))).map (·.length)).sum + (cs.map (fun c => (⟨#[c]⟩ : Str))).length * 0 ≤ 16777216
      rw [List.map_map, show ((fun x : Str => x.length) ∘ fun c => (⟨#[c]⟩ : Str)) = fun _ => 1 from rfl, List.map_const', List.sum_replicate_nat]
      omega
    have hst : (Txt.join (Str.ofString "") (cs.map fun c => (⟨#[c]⟩ : Str))).length ≤ 7 := by
      rw [show Str.ofString "" = ⟨#[]⟩ from rfl, join0]
      show cs.toArray.size ≤ 7
      rw [List.size_toArray]
      omega
    have hsc : ∀ c ∈ (Txt.join (Str.ofString "") (cs.map fun c => (⟨#[c]⟩ : Str))).cps.toList, c ∈ LET := by
      rw [show Str.ofString "" = ⟨#[]⟩ from rfl, join0]
      exact hcs
    generalize Txt.join (Str.ofString "") (cs.map fun c => (⟨#[c]⟩ : Str)) = stem at hst hsc ⊢
    -- first, way_here
    refine ⟨.ref g.d, rfl, g, _, 23, rfl, F2, by omega, by decide, by decide, fun fi H3 fi0 fi1 F3 K3 => ?_⟩
    refine ⟨.ref g.d, rfl, g, _, 3, rfl, F3, by omega, by decide, by decide, fun wh H4 wh0 wh1 F4 K4 => ?_⟩
    have K14 : Kp g H H4 := ((K1.trans K2).trans K3).trans K4
    -- found
    refine ⟨.int m, rfl, m, rfl, by omega, by omega, fun D2 nD2 => ?_⟩
    refine lcR (g := g) 0 (fun _ y => ∃ z : Str, y = V.str z ∧ NameS z) (fun i acc => acc.length = i) nD2 F4 (by omega) (by omega) (fun _ _ _ _ h => h) rfl (fun i H5 B' hi F5 hB' K5 Qk Qs qk qs => ?_) (fun H5 acc5 F5 K5 eD5 el5 pl5 al5 => ?_)
    · refine ⟨rfl, .str stem, rfl, .int fi, rfl, .int (0 + i), rfl, fi, 0 + i, rfl, rfl, fun z ez => ?_⟩
      obtain ⟨c, hc, hcm, _⟩ := atI_in (xs := (Str.ofString "abcdefghijklmnopqrstuvwxyz").cps.toList) (i := z) (by omega) (by
        have : (Str.ofString "abcdefghijklmnopqrstuvwxyz").cps.toList.length = 26 := by decide
        rw [this]
        omega)
      refine ⟨_, z, c, rfl, rfl, by decide, hc, stem, _, rfl, rfl, ?_, ?_⟩
      · exact sz (by
          show stem.length + 1 ≤ 100000
          omega)
      · have e1 : (stem ++ (⟨#[c]⟩ : Str)).cps.toList = stem.cps.toList ++ [c] := str_app _ _
        have e2 : (stem ++ (⟨#[c]⟩ : Str)).length = stem.length + 1 := by rw [str_len, e1, List.length_append, ← str_len]; rfl
        refine qk _ _ F5 (Kp.refl _ _) ⟨_, rfl, ⟨by omega, by omega, fun d hd => ?_⟩⟩ (fun acc h => by rw [List.length_append, h]; rfl)
        rw [e1] at hd
        rcases List.mem_append.mp hd with h | h
        · exact hsc d h
        · rw [List.mem_singleton.mp h]; exact hcm
    obtain ⟨zs, rfl, hzs⟩ := all_map al5
    have fin : ∀ (zs : List Str) (D2 : Addr) (H5 : Hp), zs.length = m.toNat → (∀ k ∈ zs, NameS k) → H5 D2 = some (.lst (zs.map V.str)) → Fu g (B - 10) H5 → Kp g H H5 → rSortedS K [.ref D2] H5 fun v H6 => rTupF K [v] H6 Q := by
      intro zs D2 H5 lz hz eD5 F5 K5
      refine ⟨D2, zs, rfl, SqL.of eD5, by omega, fun ys p perm _ np => ⟨p, _, rfl, SqL.of upd_same, fun l o H' nl od eH' => ?_⟩⟩
      subst eH'
      have F6 := F5.new (o := .lst (ys.map V.str)) np
      have K6 : Kp g H (upd H5 p (.lst (ys.map V.str))) := K5.trans (Kp.new np)
      exact q l ys _ _ (by rw [perm.length_eq]; exact lz) (fun k hk => hz k (perm.mem_iff.mp hk)) ⟨o, upd_same, od⟩ K6 (F6.mono (by omega)) nl (F6.new nl) (K6.trans (Kp.new nl))
    rw [List.length_map] at pl5
    -- if way_here == 0
    refine ⟨.int wh, rfl, rfl, _, rfl, ite2 (fun e => ?_) (fun e => ?_)⟩
    · refine ⟨.int m, rfl, m, rfl, by omega, by omega, fun D3 nD3 => ?_⟩
      refine lcR (g := g) 0 (fun _ y => ∃ z : Str, y = V.str z ∧ NameS z) (fun i acc => acc.length = i) nD3 F5 (by omega) (by omega) (fun _ _ _ _ h => h) rfl (fun i H6 B' hi F6 hB' K6 Qk Qs qk qs => ?_) (fun H6 acc6 F6 K6 eD6 el6 pl6 al6 => ?_)
      · refine ⟨rfl, .int (0 + i), rfl, 0 + i, 1, rfl, rfl, fun z ez => ⟨_, z, rfl, rfl, by omega, by omega, by decide, by decide, fun r hrl er => ⟨.str stem, rfl, r, stem, rfl, rfl, ?_, ?_⟩⟩⟩
        · have er : r.length = z.toNat * 1 := er
          exact sz (by omega)
        · refine ⟨.int m, rfl, 8, m, rfl, rfl, fun a ea => ⟨.int (0 + i), rfl, a, 0 + i, rfl, rfl, fun b eb => ⟨b, 1, rfl, rfl, fun c ec => ⟨c, rfl, _, rfl, ?_, ?_⟩⟩⟩⟩
          · have er : r.length = z.toNat * 1 := er
            have : (r ++ stem).length = r.length + stem.length := by rw [str_len, str_app, List.length_append, ← str_len, ← str_len]
            rw [this]
            exact sz (by omega)
          · have er : r.length = z.toNat * 1 := er
            have er2 : (r ++ stem).length = r.length + stem.length := by rw [str_len, str_app, List.length_append, ← str_len, ← str_len]
            have hrs : ∀ d ∈ (r ++ stem).cps.toList, d ∈ LET := fun d hd => by
              rw [str_app] at hd
              rcases List.mem_append.mp hd with h | h
              · rw [hrl] at h
                obtain ⟨l, hl, hd⟩ := List.mem_flatten.mp h
                rw [(List.mem_replicate.mp hl).2] at hd
                have : ∀ d ∈ (Str.ofString "m").cps.toList, d ∈ LET := by decide +kernel
                exact this d hd
              · exact hsc d h
            have c0 : 0 ≤ c := by omega
            obtain ⟨cn, rfl⟩ := Int.eq_ofNat_of_zero_le c0
            have cut : (cutS (r ++ stem) none (some (cn : Int))).cps.toList = (r ++ stem).cps.toList.take (min cn (r ++ stem).length) := by
              unfold cutS
              rw [HT.sIx_none, HT.sIx_nat, List.drop_zero, Nat.sub_zero]
            have cl : (cutS (r ++ stem) none (some (cn : Int))).length = min cn (r ++ stem).length := by
              rw [str_len, cut, List.length_take, ← str_len]
              omega
            have hi' : i < m.toNat := hi
            exact qk _ _ F6 (Kp.refl _ _) ⟨_, rfl, ⟨by rw [cl]; omega, by rw [cl]; omega, fun d hd => hrs d (by rw [cut] at hd; exact List.mem_of_mem_take hd)⟩⟩ (fun acc h => by rw [List.length_append, h]; rfl)
      obtain ⟨z6, rfl, hz6⟩ := all_map al6
      rw [List.length_map] at pl6
      exact ⟨.ref D3, rfl, fin z6 D3 H6 pl6 hz6 eD6 (F6.mono (by omega)) ((K14.trans K5).trans K6)⟩
    · exact ⟨.ref D2, rfl, fin zs D2 H5 pl5 hzs eD5 (F5.mono (by omega)) (K14.trans K5)⟩
theorem ok_kinds {f : Addr} {fd : FuncData} {k : Nat} {ps : List Str} (F : FnOk P w K mg base CX0 k f fd ps spKindsF) : FnOk P w K mg base CX0 k f fd ps (spN 1 gKinds) := F.wk fun vs H Q E h => by
  obtain ⟨g, M, ws, ds, n, rfl, pl, dm, iv, r, l, ⟨m, rfl, m1, m4⟩, hn, q⟩ := h
  match ws, r with
  | [_], .cons (.int _) .nil =>
    refine ⟨g, n, m, rfl, iv, hn, m1, m4, fun p ks H' H6 lk hk t K6 F6 np F' K' => ?_⟩
    have nM : ¬ M p := fun mp => by
      cases e : H p with
      | none => exact dm p mp e
      | some o =>
        by_cases ow : g.own p
        · exact g.alive F6 ow np
        · rw [kp_own K6 p o ow e] at np; cases np
    have lk' : ks.length ≤ 4 := by omega
    refine q (.tuple (ks.map PyData.str)) (n - 10) ⟨m, _, rfl, rfl, by rw [List.length_map]; omega, by rw [List.length_map]; omega, fun k hk' => ?_⟩ (by omega) (.ref p) H' (kp_own K') F' (.tup t nM (by rw [List.length_map]; exact sz (by omega)) ?_)
    · obtain ⟨z, hz, rfl⟩ := List.mem_map.mp hk'
      exact (hk z hz).is
    · have : ∀ ks : List Str, (∀ k ∈ ks, NameS k) → RpAll M H' (ks.map V.str) (ks.map PyData.str) := by
        intro ks
        induction ks with
        | nil => intro _; exact .nil
        | cons k ks ih => exact fun h => .cons (.str k (sz (by have := (h k (by simp)).hi; omega))) (ih fun z hz => h z (by simp [hz]))
      exact this ks hk
end
end Dl
namespace Dl
open PySem PySem.Spec PyProof.Rows L2 Rt
/-! ### the least and the greatest of a list, a list in its order -/
def leastI : List Int → Option Int
  | [] => none
  | x :: xs => some (xs.foldl (fun a b => if b < a then b else a) x)
def mostI : List Int → Option Int
  | [] => none
  | x :: xs => some (xs.foldl (fun a b => if b > a then b else a) x)
theorem foldl_least : ∀ (xs : List Int) (x m : Int), m ∈ x :: xs → (∀ y ∈ x :: xs, m ≤ y) → xs.foldl (fun a b => if b < a then b else a) x = m
  | [], x, m, h, _ => (List.mem_singleton.mp h).symm
  | y :: xs, x, m, h, hl => by
    show xs.foldl _ (if y < x then y else x) = m
    have h1 := hl x (by simp)
    have h2 := hl y (by simp)
    refine foldl_least xs _ m ?_ fun z hz => ?_
    · rcases List.mem_cons.mp h with rfl | h
      · rw [if_neg (by omega)]; exact List.mem_cons_self
      · rcases List.mem_cons.mp h with rfl | h
        · by_cases e : m < x
          · rw [if_pos e]; exact List.mem_cons_self
          · have : x = m := by omega
            rw [if_neg e, this]; exact List.mem_cons_self
        · exact List.mem_cons_of_mem _ h
    · rcases List.mem_cons.mp hz with rfl | hz
      · split <;> omega
      · exact hl z (by simp [hz])
theorem foldl_most : ∀ (xs : List Int) (x m : Int), m ∈ x :: xs → (∀ y ∈ x :: xs, y ≤ m) → xs.foldl (fun a b => if b > a then b else a) x = m
  | [], x, m, h, _ => (List.mem_singleton.mp h).symm
  | y :: xs, x, m, h, hl => by
    show xs.foldl _ (if y > x then y else x) = m
    have h1 := hl x (by simp)
    have h2 := hl y (by simp)
    refine foldl_most xs _ m ?_ fun z hz => ?_
    · rcases List.mem_cons.mp h with rfl | h
      · rw [if_neg (by omega)]; exact List.mem_cons_self
      · rcases List.mem_cons.mp h with rfl | h
        · by_cases e : m > x
          · rw [if_pos e]; exact List.mem_cons_self
          · have : x = m := by omega
            rw [if_neg e, this]; exact List.mem_cons_self
        · exact List.mem_cons_of_mem _ h
    · rcases List.mem_cons.mp hz with rfl | hz
      · split <;> omega
      · exact hl z (by simp [hz])
def minLD : List D → Option D
  | [.list ds] => ((intsD ds).bind leastI).map .int
  | _ => none
def maxLD : List D → Option D
  | [.list ds] => ((intsD ds).bind mostI).map .int
  | _ => none
section
variable {X : Cx}
theorem c_minL (hc : X.calm = true) : CallR X (.builtin "min") (rC minLD) := by
  intro pn s σ H xs us Q I r h
  obtain ⟨M, ds, d, dm, ra, e, q⟩ := h
  match ds, ra, e with
  | [.list ds], .cons (.lst t n l rr) .nil, e =>
    obtain ⟨m, em, rfl⟩ := some_map (show ((intsD ds).bind leastI).map PyData.int = some d from e)
    obtain ⟨ns, en, em⟩ := some_bind em
    have hv := rr.ints en
    subst hv
    refine cr_min hc pn s σ H _ us Q I r ⟨_, ns, rfl, SqL.of t, ?_, fun m' hm hl => ?_⟩
    · cases ns with
      | nil => cases em
      | cons _ _ => simp
    · have : m' = m := by
        cases ns with
        | nil => cases em
        | cons x xs =>
          have e2 := foldl_least xs x m' hm hl
          have em : some (xs.foldl (fun a b => if b < a then b else a) x) = some m := em
          rw [e2] at em
          cases em
          rfl
      subst this
      exact q _ _ (Same.refl _) (.int _)
theorem c_maxL (hc : X.calm = true) : CallR X (.builtin "max") (rC maxLD) := by
  intro pn s σ H xs us Q I r h
  obtain ⟨M, ds, d, dm, ra, e, q⟩ := h
  match ds, ra, e with
  | [.list ds], .cons (.lst t n l rr) .nil, e =>
    obtain ⟨m, em, rfl⟩ := some_map (show ((intsD ds).bind mostI).map PyData.int = some d from e)
    obtain ⟨ns, en, em⟩ := some_bind em
    have hv := rr.ints en
    subst hv
    refine cr_max hc pn s σ H _ us Q I r ⟨_, ns, rfl, SqL.of t, ?_, fun m' hm hl => ?_⟩
    · cases ns with
      | nil => cases em
      | cons _ _ => simp
    · have : m' = m := by
        cases ns with
        | nil => cases em
        | cons x xs =>
          have e2 := foldl_most xs x m' hm hl
          have em : some (xs.foldl (fun a b => if b > a then b else a) x) = some m := em
          rw [e2] at em
          cases em
          rfl
      subst this
      exact q _ _ (Same.refl _) (.int _)
/-- sorted, the least first -/
def sortA (ns : List Int) : List Int := ns.mergeSort fun a b => decide (a ≤ b)
theorem sortA_perm (ns : List Int) : (sortA ns).Perm ns := List.mergeSort_perm ns _
theorem sortA_pw (ns : List Int) : (sortA ns).Pairwise (· ≤ ·) := by
  have := List.pairwise_mergeSort (le := fun a b : Int => decide (a ≤ b)) (fun a b c h1 h2 => by simp at *; omega) (fun a b => by simp; omega) ns
  exact this.imp fun h => by simpa using h
theorem pw_uniqA : ∀ {a b : List Int}, a.Perm b → a.Pairwise (· ≤ ·) → b.Pairwise (· ≤ ·) → a = b
  | [], b, p, _, _ => (List.nil_perm.mp p).symm
  | x :: a, [], p, _, _ => absurd p.length_eq (by simp)
  | x :: a, y :: b, p, ha, hb => by
    have h1 := List.pairwise_cons.mp ha
    have h2 := List.pairwise_cons.mp hb
    have e : x = y := by
      have m1 : x ∈ y :: b := p.mem_iff.mp List.mem_cons_self
      have m2 : y ∈ x :: a := p.mem_iff.mpr List.mem_cons_self
      rcases List.mem_cons.mp m1 with e | m1
      · exact e
      · rcases List.mem_cons.mp m2 with e | m2
        · exact e.symm
        · have := h1.1 y m2
          have := h2.1 x m1
          omega
    subst e
    rw [pw_uniqA ((List.perm_cons _).mp p) h1.2 h2.2]
def sorAD : List D → Option D
  | [.list ds] => (intsD ds).bind fun ns => if ns.length < 64 then some (.list ((sortA ns).map .int)) else none
  | _ => none
theorem ints_rpA {M : Addr → Prop} {H : Hp} : ∀ ns : List Int, RpAll M H (ns.map V.int) (ns.map PyData.int)
  | [] => .nil
  | n :: ns => .cons (.int n) (ints_rpA ns)
theorem c_sorA : CallR X (.builtin "sorted") (rC sorAD) := by
  intro pn s σ H xs us Q I r h
  obtain ⟨M, ds, d, dm, ra, e, q⟩ := h
  match ds, ra, e with
  | [.list ds], .cons (.lst t n l rr) .nil, e =>
    obtain ⟨ns, en, e⟩ := some_bind (show (intsD ds).bind _ = some d from e)
    obtain ⟨l2, rfl⟩ := iteS e
    have hv := rr.ints en
    subst hv
    refine cr_sorted pn s σ H _ us Q I r ⟨_, ns, rfl, SqL.of t, l2, fun ns' p pm pw np => ?_⟩
    have : ns' = sortA ns := pw_uniqA (pm.trans (sortA_perm ns).symm) pw (sortA_pw ns)
    subst this
    exact q _ _ (smN np) (.lst upd_same (dm.not np) (by rw [List.length_map, (sortA_perm ns).length_eq]; exact small64 l2) (ints_rpA _))
end
end Dl
namespace Dl
open PySem PySem.Spec PyProof.Rows L2 Rt
/-! ### worlds and things, told as Lean data -/
structure Sr where
  k : Str
  a : Int
  p : Int
  s : Int
  m : Int
structure Pt where
  k : Str
  l : Int
  g : Int
structure Wy where
  k : Str
  ps : List Pt
  kp : Str
  hs : List Int
  w : Int
structure Wd where
  n : Int
  ks : List Str
  ss : List Sr
  ws : List Wy
def Sr.d (x : Sr) : D := .tuple [.str x.k, .int x.a, .int x.p, .int x.s, .int x.m]
def Pt.d (x : Pt) : D := .tuple [.str x.k, .int x.l, .int x.g]
def Wy.d (x : Wy) : D := .tuple [.str x.k, .tuple (x.ps.map Pt.d), .str x.kp, .tuple (x.hs.map .int), .int x.w]
def Wd.d (x : Wd) : D := .tuple [.int x.n, .tuple (x.ks.map .str), .tuple (x.ss.map Sr.d), .tuple (x.ws.map Wy.d)]
structure Sr.ok (n : Int) (ks : List Str) (x : Sr) : Prop where
  k : x.k ∈ ks
  a0 : 0 ≤ x.a
  a1 : x.a ≤ 20
  p0 : 0 ≤ x.p
  p1 : x.p < n
  s0 : 0 ≤ x.s
  s1 : x.s ≤ 1000000
  m0 : 0 ≤ x.m
  m1 : x.m ≤ 9
structure Pt.ok (ks : List Str) (x : Pt) : Prop where
  k : x.k ∈ ks
  l0 : 0 ≤ x.l
  lg : x.l ≤ x.g
  g1 : x.g ≤ 20
structure Wy.ok (n : Int) (ks : List Str) (x : Wy) : Prop where
  k : x.k ∈ ks
  ps : ∀ p ∈ x.ps, p.ok ks
  p1 : 1 ≤ x.ps.length
  p3 : x.ps.length ≤ 3
  kp : x.kp = Str.ofString "oldest" ∨ x.kp = Str.ofString "youngest"
  hs : ∀ h ∈ x.hs, 0 ≤ h ∧ h < n
  hl : x.hs.length ≤ 6
  w0 : 1 ≤ x.w
  w1 : x.w ≤ 6
structure Wd.ok (x : Wd) : Prop where
  n1 : 1 ≤ x.n
  n6 : x.n ≤ 6
  k1 : 1 ≤ x.ks.length
  k4 : x.ks.length ≤ 4
  ks : ∀ z ∈ x.ks, PyData.strOk z = true ∧ z.length ≤ 20
  sl : x.ss.length ≤ 6
  ss : ∀ s ∈ x.ss, s.ok x.n x.ks
  wl : x.ws.length ≤ 8
  ws : ∀ w ∈ x.ws, w.ok x.n x.ks
theorem map_inj {α : Type} {f : α → D} (h : ∀ {x y}, f x = f y → x = y) : ∀ {a b : List α}, a.map f = b.map f → a = b
  | [], [], _ => rfl
  | [], _ :: _, e => nomatch e
  | _ :: _, [], e => nomatch e
  | x :: a, y :: b, e => by
    have e := List.cons.inj (show f x :: a.map f = f y :: b.map f from e)
    rw [h e.1, map_inj h e.2]
theorem tup_inj {α : Type} {f : α → D} (h : ∀ {x y}, f x = f y → x = y) {a b : List α} (e : PyData.tuple (a.map f) = .tuple (b.map f)) : a = b := by
  injection e with e
  exact map_inj h e
theorem int_i {a b : Int} (h : PyData.int a = .int b) : a = b := by cases h; rfl
theorem str_i {a b : Str} (h : PyData.str a = .str b) : a = b := by cases h; rfl
theorem Sr.inj {x y : Sr} (h : x.d = y.d) : x = y := by
  cases x; cases y; cases h; rfl
theorem Pt.inj {x y : Pt} (h : x.d = y.d) : x = y := by
  cases x; cases y; cases h; rfl
theorem Wy.inj {x y : Wy} (h : x.d = y.d) : x = y := by
  cases x with
  | mk k ps kp hs w =>
    cases y with
    | mk k' ps' kp' hs' w' =>
      have h : PyData.tuple [.str k, .tuple (ps.map Pt.d), .str kp, .tuple (hs.map .int), .int w] = .tuple [.str k', .tuple (ps'.map Pt.d), .str kp', .tuple (hs'.map .int), .int w'] := h
      injection h with h
      injection h with h1 h
      injection h with h2 h
      injection h with h3 h
      injection h with h4 h
      injection h with h5 h
      cases str_i h1
      cases str_i h3
      cases int_i h5
      cases tup_inj Pt.inj h2
      cases tup_inj int_i h4
      rfl
theorem Wd.inj {x y : Wd} (h : x.d = y.d) : x = y := by
  cases x with
  | mk n ks ss ws =>
    cases y with
    | mk n' ks' ss' ws' =>
      have h : PyData.tuple [.int n, .tuple (ks.map .str), .tuple (ss.map Sr.d), .tuple (ws.map Wy.d)] = .tuple [.int n', .tuple (ks'.map .str), .tuple (ss'.map Sr.d), .tuple (ws'.map Wy.d)] := h
      injection h with h
      injection h with h1 h
      injection h with h2 h
      injection h with h3 h
      injection h with h4 h
      cases int_i h1
      cases tup_inj str_i h2
      cases tup_inj Sr.inj h3
      cases tup_inj Wy.inj h4
      rfl
structure Sem (α : Type) where
  enc : α → List D
  ok : α → Prop
  out : α → D
  fn : ∀ {x y}, ok x → ok y → enc x = enc y → out x = out y
noncomputable def Sem.f {α : Type} (S : Sem α) : List D → Option D := fun ds => @dite _ (∃ x, S.ok x ∧ S.enc x = ds) (Classical.propDecidable _) (fun h => some (S.out h.choose)) (fun _ => none)
theorem Sem.of {α : Type} {S : Sem α} {x : α} (h : S.ok x) : S.f (S.enc x) = some (S.out x) := by
  unfold Sem.f
  rw [dif_pos ⟨x, h, rfl⟩]
  congr 1
  have z : ∃ y, S.ok y ∧ S.enc y = S.enc x := ⟨x, h, rfl⟩
  exact S.fn z.choose_spec.1 h z.choose_spec.2
theorem Sem.get {α : Type} {S : Sem α} {ds : List D} {d : D} (h : S.f ds = some d) : ∃ x, S.ok x ∧ ds = S.enc x ∧ d = S.out x := by
  unfold Sem.f at h
  by_cases e : ∃ x, S.ok x ∧ S.enc x = ds
  · rw [dif_pos e] at h
    cases h
    exact ⟨_, e.choose_spec.1, e.choose_spec.2.symm, rfl⟩
  · rw [dif_neg e] at h
    cases h
theorem nat_i {a b : Nat} (h : PyData.int (a : Nat) = .int (b : Nat)) : a = b := by
  injection h with h
  omega
theorem at_map {α : Type} {f : α → D} {xs : List α} {j : Nat} {x : α} (h : xs[j]? = some x) : L2.atI (xs.map f) (j : Int) = some (f x) := atI_nat (by rw [List.getElem?_map, h]; rfl)
theorem ev_eIf {c : Rho → Option Bool} {f g : EF} {ρ : Rho} {b : Bool} {d : D} (hc : c ρ = some b) (h : (if b = true then f ρ else g ρ) = some d) : eIf c f g ρ = some d := by
  unfold eIf
  rw [hc]
  exact h
def sPlace : List D → Option D
  | [.tuple (.int n :: _), .int i] => if 0 < n then some (.int (i % n)) else none
  | _ => none
def SBea : Sem (Wd × Nat × Wy × Int × List Int × Int) where
  enc := fun (X, j, _, t, os, _) => [X.d, .int (j : Nat), .int t, .list (os.map .int)]
  ok := fun (X, j, y, t, os, o) => X.ok ∧ X.ws[j]? = some y ∧ (if y.kp = Str.ofString "oldest" then leastI os else mostI os) = some o
  out := fun (X, _, y, t, os, o) => .tuple [.int o, .int (t + y.w)]
  fn := fun {x y} hx hy e => by
    obtain ⟨X, j, r, t, os, o⟩ := x
    obtain ⟨X', j', r', t', os', o'⟩ := y
    injection e with e1 e
    injection e with e2 e
    injection e with e3 e
    injection e with e4 e
    injection e4 with e4
    cases Wd.inj e1
    cases nat_i e2
    cases int_i e3
    cases map_inj int_i e4
    cases hx.2.1.symm.trans hy.2.1
    cases hx.2.2.symm.trans hy.2.2
    rfl
theorem intsD.map (ns : List Int) : intsD (ns.map PyData.int) = some ns := by
  induction ns with
  | nil => rfl
  | cons n ns ih =>
    show (intsD (ns.map PyData.int)).map _ = _
    rw [ih]
    rfl
structure Tg where
  k : Str
  o : Int
  b : Int
def Tg.d (x : Tg) : D := .tuple [.str x.k, .int x.o, .int x.b]
theorem Tg.inj {x y : Tg} (h : x.d = y.d) : x = y := by
  cases x; cases y; cases h; rfl
def SBri : Sem (Wd × Nat × Sr × Int) where
  enc := fun (X, j, _, t) => [X.d, .int (j : Nat), .int t]
  ok := fun (X, j, r, _) => X.ok ∧ X.ss[j]? = some r
  out := fun (X, _, r, t) => .bool (decide (t ≥ r.s) && (t % X.n == r.p))
  fn := fun {x y} hx hy e => by
    obtain ⟨X, j, r, t⟩ := x
    obtain ⟨X', j', r', t'⟩ := y
    injection e with e1 e
    injection e with e2 e
    injection e with e3 e
    cases Wd.inj e1
    cases nat_i e2
    cases int_i e3
    cases hx.2.symm.trans hy.2
    rfl
def SOpn : Sem (Wd × Nat × Wy × Int) where
  enc := fun (X, j, _, t) => [X.d, .int (j : Nat), .int t]
  ok := fun (X, j, y, _) => X.ok ∧ X.ws[j]? = some y
  out := fun (X, _, y, t) => .bool (y.hs.any (· == t % X.n))
  fn := fun {x y} hx hy e => by
    obtain ⟨X, j, r, t⟩ := x
    obtain ⟨X', j', r', t'⟩ := y
    injection e with e1 e
    injection e with e2 e
    injection e with e3 e
    cases Wd.inj e1
    cases nat_i e2
    cases int_i e3
    cases hx.2.symm.trans hy.2
    rfl
section
variable {P : Program} {w : World} {K : PySem.W.Frag} {mg : Str → Option Value} {base : Heap}
theorem ok_place {f : Addr} {fd : FuncData} (F : Fun K "place_of" "place_of" s_place_of f fd) : FnOk P w K mg base CX0 1 f fd ["world", "number"] (spD 2 sPlace) := by
  refine okFn F sc_place_of rfl fun cdv A outer s H E hr => ⟨_, (dSs_one (dS_ret (ps_ret (dE_op o_mod (dE_var (μ := true) (pv 1)) (dE_ix (dE_var (μ := true) (pv 0)) (dE_c (μ := true) pe_int)))))), fun ds d l e => ?_⟩
  match ds, e with
  | [.tuple (.int n :: r), .int i], e =>
    obtain ⟨h, rfl⟩ := iteS e
    exact ⟨.rt (.int (i % n)), ev_ret (ev_e2 (a := .int i) (b := .int n) rfl (ev_e2 (a := .tuple (.int n :: r)) (b := .int 0) rfl rfl (atI_nat (j := 0) rfl)) (if_pos h)), rfl⟩
theorem place_ok {X : Wd} {i : Int} (h : X.ok) : sPlace [X.d, .int i] = some (.int (i % X.n)) := if_pos (by have := h.n1; omega)
theorem ok_bears {f : Addr} {fd : FuncData} (F : Fun K "bears" "bears" s_bears f fd) (m_min : mg "min" = none) (m_max : mg "max" = none) : FnOk P w K mg base CX0 1 f fd ["world", "way", "moment", "origins"] (spD 4 SBea.f) := by
  refine okFn F sc_bears rfl fun cdv A outer s H E hr => ⟨_, (dSs_cons (dS_asg (K := K) (p := (.tp (.cons (.nm 4) (.cons (.nm 5) (.cons (.nm 6) (.cons (.nm 7) (.cons (.nm 8) .nil))))))) (ps_asg (dE_ix (dE_ix (dE_var (μ := true) (pv 0)) (dE_c (μ := true) pe_int)) (dE_var (μ := true) (pv 1))) (pg_tup (by rfl) (pgs_cons (pg_name (i := 4) sc_bears.nd rfl (.inl rfl)) (pgs_cons (pg_name (i := 5) sc_bears.nd rfl (.inl rfl)) (pgs_cons (pg_name (i := 6) sc_bears.nd rfl (.inl rfl)) (pgs_cons (pg_name (i := 7) sc_bears.nd rfl (.inl rfl)) (pgs_cons (pg_name (i := 8) sc_bears.nd rfl (.inl rfl)) pgs_nil))))))))
  (dSs_cons (dS_asg (K := K) (p := .nm 9) (ps_set (i := 9) sc_bears.nd rfl (.inl rfl) (dE_if (dT_cmp (o_eq hr.units) (dE_var (μ := true) (pv 6)) (dE_c (μ := true) pe_str) (nomark _)) (dE_callB (c_minL rfl) (by rfl) m_min (by decide +kernel) (dA_cons (dE_var (μ := true) (pv 3)) (dA_nil (μ := true)))) (dE_callB (c_maxL rfl) (by rfl) m_max (by decide +kernel) (dA_cons (dE_var (μ := true) (pv 3)) (dA_nil (μ := true)))))))
  (dSs_one (dS_ret (ps_ret (dE_tup (dA_cons (dE_var (μ := true) (pv 9)) (dA_cons (dE_op o_add (dE_var (μ := true) (pv 2)) (dE_var (μ := true) (pv 8))) (dA_nil (μ := true)))))))))), fun ds d l e => ?_⟩
  obtain ⟨⟨X, j, y, t, os, o⟩, ⟨hX, g, ho⟩, rfl, rfl⟩ := Sem.get e
  refine ⟨.rt (.tuple [.int o, .int (t + y.w)]), ?_, rfl⟩
  let R : Option LV → Rho := fun z => [some (.dat X.d), some (.dat (.int j)), some (.dat (.int t)), some (.dat (.list (os.map .int))), some (.dat (.str y.k)), some (.dat (.tuple (y.ps.map Pt.d))), some (.dat (.str y.kp)), some (.dat (.tuple (y.hs.map .int))), some (.dat (.int y.w)), z]
  refine (ev_asg (d := y.d) (ρ' := R none) (ev_e2 (a := .tuple (X.ws.map Wy.d)) (b := .int j) rfl rfl (at_map g)) rfl).trans ?_
  have hy := hX.ws y (List.mem_of_getElem? g)
  have e1 : minLD [.list (os.map .int)] = (leastI os).map .int := by
    show ((intsD (os.map PyData.int)).bind leastI).map _ = _
    rw [intsD.map]
    rfl
  have e2 : maxLD [.list (os.map .int)] = (mostI os).map .int := by
    show ((intsD (os.map PyData.int)).bind mostI).map _ = _
    rw [intsD.map]
    rfl
  have ek : ∀ z, y.kp = z → PyData.strOk z = true → Dl.eqD (.str y.kp) (.str (Str.ofString "oldest")) = some (.bool (PyData.eqv (.str z) (.str (Str.ofString "oldest")))) := fun z hz h => by
    rw [hz]
    exact eq_ok (by show (true && (PyData.strOk z && true)) = true; rw [h]; rfl) (by decide +kernel)
  refine (ev_asg (d := .int o) (ρ' := R (some (.dat (.int o)))) ?_ rfl).trans rfl
  rcases hy.kp with hk | hk
  · rw [if_pos hk] at ho
    refine ev_eIf (b := true) (ev_oB ((ev_e2 (a := .str y.kp) (b := .str (Str.ofString "oldest")) rfl rfl (ek _ hk (by decide +kernel))).trans (congrArg (fun b => some (PyData.bool b)) (by decide +kernel)))) ?_
    show minLD [.list (os.map .int)] = _
    rw [e1, ho]
    rfl
  · rw [hk, if_neg (by decide +kernel)] at ho
    refine ev_eIf (b := false) (ev_oB ((ev_e2 (a := .str y.kp) (b := .str (Str.ofString "oldest")) rfl rfl (ek _ hk (by decide +kernel))).trans (congrArg (fun b => some (PyData.bool b)) (by decide +kernel)))) ?_
    show maxLD [.list (os.map .int)] = _
    rw [e2, ho]
    rfl
theorem ok_brings {f : Addr} {fd : FuncData} (F : Fun K "brings" "brings" s_brings f fd) (C_place_of : Cl P w K mg base 1 "place_of" ["world", "number"] (spD 2 sPlace)) : FnOk P w K mg base CX0 2 f fd ["world", "source", "moment"] (spD 3 SBri.f) := by
  refine okFn F sc_brings rfl fun cdv A outer s H E hr => ⟨_, (dSs_cons (dS_asg (K := K) (p := (.tp (.cons (.nm 3) (.cons (.nm 4) (.cons (.nm 5) (.cons (.nm 6) (.cons (.nm 7) .nil))))))) (ps_asg (dE_ix (dE_ix (dE_var (μ := true) (pv 0)) (dE_c (μ := true) pe_int)) (dE_var (μ := true) (pv 1))) (pg_tup (by rfl) (pgs_cons (pg_name (i := 3) sc_brings.nd rfl (.inl rfl)) (pgs_cons (pg_name (i := 4) sc_brings.nd rfl (.inl rfl)) (pgs_cons (pg_name (i := 5) sc_brings.nd rfl (.inl rfl)) (pgs_cons (pg_name (i := 6) sc_brings.nd rfl (.inl rfl)) (pgs_cons (pg_name (i := 7) sc_brings.nd rfl (.inl rfl)) pgs_nil))))))))
  (dSs_one (dS_ret (ps_ret (dE_and (dE_cmp o_ge (dE_var (μ := true) (pv 2)) (dE_var (μ := true) (pv 6)) (nomark _)) (dE_one (dE_cmp (o_eq hr.units) (dE_cl C_place_of (hr.mono (by omega)) (by rfl) (dA_cons (dE_var (μ := true) (pv 0)) (dA_cons (dE_var (μ := true) (pv 2)) (dA_nil (μ := true))))) (dE_var (μ := true) (pv 5)) (nomark _)))))))), fun ds d l e => ?_⟩
  obtain ⟨⟨X, j, r, t⟩, ⟨hX, g⟩, rfl, rfl⟩ := Sem.get e
  refine ⟨.rt (.bool (decide (t ≥ r.s) && (t % X.n == r.p))), ?_, rfl⟩
  refine (ev_asg (d := r.d) (ρ' := [some (.dat X.d), some (.dat (.int j)), some (.dat (.int t)), some (.dat (.str r.k)), some (.dat (.int r.a)), some (.dat (.int r.p)), some (.dat (.int r.s)), some (.dat (.int r.m))]) (ev_e2 (a := .tuple (X.ss.map Sr.d)) (b := .int j) rfl rfl (at_map g)) rfl).trans ?_
  refine ev_ret (ev_and (b := decide (t ≥ r.s)) rfl (fun h => ?_) (fun h => by rw [h]; rfl))
  refine ev_e2 (a := .int (t % X.n)) (b := .int r.p) (ev_call rfl rfl (place_ok hX)) rfl ?_
  rw [h]
  rfl
theorem ok_opens {f : Addr} {fd : FuncData} (F : Fun K "opens" "opens" s_opens f fd) (C_place_of : Cl P w K mg base 1 "place_of" ["world", "number"] (spD 2 sPlace)) : FnOk P w K mg base CX0 2 f fd ["world", "way", "moment"] (spD 3 SOpn.f) := by
  refine okFn F sc_opens rfl fun cdv A outer s H E hr => ⟨_, (dSs_cons (dS_asg (K := K) (p := (.tp (.cons (.nm 3) (.cons (.nm 4) (.cons (.nm 5) (.cons (.nm 6) (.cons (.nm 7) .nil))))))) (ps_asg (dE_ix (dE_ix (dE_var (μ := true) (pv 0)) (dE_c (μ := true) pe_int)) (dE_var (μ := true) (pv 1))) (pg_tup (by rfl) (pgs_cons (pg_name (i := 3) sc_opens.nd rfl (.inl rfl)) (pgs_cons (pg_name (i := 4) sc_opens.nd rfl (.inl rfl)) (pgs_cons (pg_name (i := 5) sc_opens.nd rfl (.inl rfl)) (pgs_cons (pg_name (i := 6) sc_opens.nd rfl (.inl rfl)) (pgs_cons (pg_name (i := 7) sc_opens.nd rfl (.inl rfl)) pgs_nil))))))))
  (dSs_one (dS_ret (ps_ret (dE_cmp (o_in (u65 hr)) (dE_cl C_place_of (hr.mono (by omega)) (by rfl) (dA_cons (dE_var (μ := true) (pv 0)) (dA_cons (dE_var (μ := true) (pv 2)) (dA_nil (μ := true))))) (dE_var (μ := true) (pv 6)) (by rfl)))))), fun ds d l e => ?_⟩
  obtain ⟨⟨X, j, y, t⟩, ⟨hX, g⟩, rfl, rfl⟩ := Sem.get e
  refine ⟨.rt (.bool (y.hs.any (· == t % X.n))), ?_, rfl⟩
  refine (ev_asg (d := y.d) (ρ' := [some (.dat X.d), some (.dat (.int j)), some (.dat (.int t)), some (.dat (.str y.k)), some (.dat (.tuple (y.ps.map Pt.d))), some (.dat (.str y.kp)), some (.dat (.tuple (y.hs.map .int))), some (.dat (.int y.w))]) (ev_e2 (a := .tuple (X.ws.map Wy.d)) (b := .int j) rfl rfl (at_map g)) rfl).trans ?_
  refine ev_ret (ev_e2 (a := .int (t % X.n)) (b := .tuple (y.hs.map .int)) (ev_call rfl rfl (place_ok hX)) rfl ?_)
  rw [in_tup (ok_int _).1 (okT fun d hd => by
    obtain ⟨i, _, rfl⟩ := List.mem_map.mp hd
    exact ok_int i)]
  congr 2
  rw [List.any_map]
  rfl
end
end Dl
namespace Dl
open PySem PySem.Spec PyProof.Rows L2 Rt
theorem okD_str {z : Str} (h : PyData.strOk z = true) : okD (.str z) = true := by
  show (true && (PyData.strOk z && true)) = true
  rw [h]
  rfl
/-! ### the rows of a paper -/
def fitB (p : Pt) (g : Tg) (t : Int) : Bool := (g.k == p.k) && (decide (g.b ≤ t) && (decide (p.l ≤ t - g.o) && decide (t - g.o ≤ p.g)))
def brR (X : Wd) : D → Option (Nat × Sr × Int)
  | .tuple [.str z, .int i, .int t] => if z = Str.ofString "brought" ∧ 0 ≤ i ∧ 0 ≤ t ∧ t ≤ 3000000000000000 then (X.ss[i.toNat]?).map fun r => (i.toNat, r, t) else none
  | _ => none
theorem brR_eq {X : Wd} {z : Str} {i t : Int} : brR X (.tuple [.str z, .int i, .int t]) = if z = Str.ofString "brought" ∧ 0 ≤ i ∧ 0 ≤ t ∧ t ≤ 3000000000000000 then (X.ss[i.toNat]?).map fun r => (i.toNat, r, t) else none := rfl
def SFit : Sem (Pt × Tg × Int) where
  enc := fun (p, g, t) => [p.d, g.d, .int t]
  ok := fun (p, g, _) => PyData.strOk p.k = true ∧ PyData.strOk g.k = true
  out := fun (p, g, t) => .bool (fitB p g t)
  fn := fun {x y} _ _ e => by
    obtain ⟨p, g, t⟩ := x
    obtain ⟨p', g', t'⟩ := y
    injection e with e1 e
    injection e with e2 e
    injection e with e3 e
    cases Pt.inj e1
    cases Tg.inj e2
    cases int_i e3
    rfl
def SBrR : Sem (Wd × D) where
  enc := fun (X, d) => [X.d, d]
  ok := fun (X, _) => X.ok
  out := fun (X, d) => .bool (brR X d).isSome
  fn := fun {x y} _ _ e => by
    obtain ⟨X, d⟩ := x
    obtain ⟨X', d'⟩ := y
    injection e with e1 e
    injection e with e2 e
    cases Wd.inj e1
    cases e2
    rfl
theorem row3 {d : D} (h : isRow 3 3 d = true) : ∃ a b c, d = .tuple [a, b, c] := by
  obtain ⟨ds, rfl⟩ : ∃ ds, d = .tuple ds := by
    cases d <;> first | exact ⟨_, rfl⟩ | cases h
  have h := Bool.and_eq_true_iff.mp (show (decide ((3 : Int) ≤ ds.length) && decide ((ds.length : Int) ≤ 3)) = true from h)
  have h1 := of_decide_eq_true h.1
  have h2 := of_decide_eq_true h.2
  match ds, h1, h2 with
  | [], h1, _ => exact absurd h1 (by decide)
  | [_], h1, _ => exact absurd h1 (by simp only [List.length_cons, List.length_nil]; omega)
  | [_, _], h1, _ => exact absurd h1 (by simp only [List.length_cons, List.length_nil]; omega)
  | [a, b, c], _, _ => exact ⟨a, b, c, rfl⟩
  | _ :: _ :: _ :: _ :: r, _, h2 => exact absurd h2 (by simp only [List.length_cons]; omega)
theorem brR_row {X : Wd} {d : D} (h : isRow 3 3 d = false) : brR X d = none := by
  unfold brR
  split
  · cases h
  · rfl
theorem brR_ne {X : Wd} {z : Str} {b c : D} (h : z ≠ Str.ofString "brought") : brR X (.tuple [.str z, b, c]) = none := by
  cases b <;> try rfl
  cases c <;> try rfl
  rw [brR_eq]
  exact if_neg fun e => h e.1
section
variable {P : Program} {w : World} {K : PySem.W.Frag} {mg : Str → Option Value} {base : Heap}
theorem ok_fits {f : Addr} {fd : FuncData} (F : Fun K "fits" "fits" s_fits f fd) : FnOk P w K mg base CX0 1 f fd ["window", "thing", "moment"] (spD 3 SFit.f) := by
  refine okFn F sc_fits rfl fun cdv A outer s H E hr => ⟨_, (dSs_cons (dS_asg (K := K) (p := (.tp (.cons (.nm 3) (.cons (.nm 4) (.cons (.nm 5) .nil))))) (ps_asg (dE_var (μ := true) (pv 0)) (pg_tup (by rfl) (pgs_cons (pg_name (i := 3) sc_fits.nd rfl (.inl rfl)) (pgs_cons (pg_name (i := 4) sc_fits.nd rfl (.inl rfl)) (pgs_cons (pg_name (i := 5) sc_fits.nd rfl (.inl rfl)) pgs_nil))))))
  (dSs_cons (dS_asg (K := K) (p := (.tp (.cons (.nm 6) (.cons (.nm 7) (.cons (.nm 8) .nil))))) (ps_asg (dE_var (μ := true) (pv 1)) (pg_tup (by rfl) (pgs_cons (pg_name (i := 6) sc_fits.nd rfl (.inl rfl)) (pgs_cons (pg_name (i := 7) sc_fits.nd rfl (.inl rfl)) (pgs_cons (pg_name (i := 8) sc_fits.nd rfl (.inl rfl)) pgs_nil))))))
  (dSs_one (dS_ret (ps_ret (dE_and (dE_cmp (o_eq hr.units) (dE_var (μ := true) (pv 6)) (dE_var (μ := true) (pv 3)) (nomark _)) (dE_and (dE_cmp o_le (dE_var (μ := true) (pv 8)) (dE_var (μ := true) (pv 2)) (nomark _)) (dE_one (dE_chain o_le o_le (dE_var (μ := true) (pv 4)) (dE_op o_sub (dE_var (μ := true) (pv 2)) (dE_var (μ := true) (pv 7))) (dE_var (μ := true) (pv 5))))))))))), fun ds d l e => ?_⟩
  obtain ⟨⟨p, g, t⟩, ⟨hp, hg⟩, rfl, rfl⟩ := Sem.get e
  refine ⟨.rt (.bool (fitB p g t)), ?_, rfl⟩
  refine (ev_asg (d := p.d) (ρ' := [some (.dat p.d), some (.dat g.d), some (.dat (.int t)), some (.dat (.str p.k)), some (.dat (.int p.l)), some (.dat (.int p.g)), none, none, none]) rfl rfl).trans ?_
  refine (ev_asg (d := g.d) (ρ' := [some (.dat p.d), some (.dat g.d), some (.dat (.int t)), some (.dat (.str p.k)), some (.dat (.int p.l)), some (.dat (.int p.g)), some (.dat (.str g.k)), some (.dat (.int g.o)), some (.dat (.int g.b))]) rfl rfl).trans ?_
  refine ev_ret (ev_and (b := (g.k == p.k)) (ev_e2 (a := .str g.k) (b := .str p.k) rfl rfl (eq_ok (okD_str hg) (okD_str hp))) (fun h => ?_) (fun h => by unfold fitB; rw [h]; rfl))
  refine ev_and (b := decide (g.b ≤ t)) rfl (fun h2 => ?_) (fun h2 => by unfold fitB; rw [h, h2]; rfl)
  unfold fitB
  rw [h, h2]
  show eChain leD leD _ _ _ _ = _
  unfold eChain
  by_cases h3 : p.l ≤ t - g.o <;> simp [leD, bB, e2, eVar, subD, h3]
theorem ok_brR {f : Addr} {fd : FuncData} {t1 : Tok} (F : Fun K "is_brought_row" "is_brought_row" s_is_brought_row f fd) (g_LAST : mg "LAST" = some (.int 3000000000000000 t1)) (m_len : mg "len" = none) (C_is_row : Cl P w K mg base 1 "is_row" ["thing", "fewest", "most"] (spD 3 sRow)) (C_is_number_from : Cl P w K mg base 2 "is_number_from" ["thing", "low", "high"] (spD 3 sFrom)) : FnOk P w K mg base CX0 3 f fd ["world", "row"] (spD 2 SBrR.f) := by
  refine okFn F sc_is_brought_row rfl fun cdv A outer s H E hr => ⟨_, (dSs_cons (dS_if (PW.pt (dW_or (dT_not (dT_val (dE_cl C_is_row (hr.mono (by omega)) (by rfl) (dA_cons (dE_var (μ := true) (pv 1)) (dA_cons (dE_c (μ := true) pe_int) (dA_cons (dE_c (μ := true) pe_int) (dA_nil (μ := true)))))))) (dW_or1 (dT_cmp (o_neQ hr.units) (dE_ix (dE_var (μ := true) (pv 1)) (dE_c (μ := true) pe_int)) (dE_c (μ := true) pe_str) (nomark _)))))
    (dSs_one (dS_ret (ps_ret (dE_c (μ := true) pe_bl))))
    dSs_nil)
  (dSs_one (dS_ret (ps_ret (dE_and (dE_cl C_is_number_from (hr.mono (by omega)) (by rfl) (dA_cons (dE_ix (dE_var (μ := true) (pv 1)) (dE_c (μ := true) pe_int)) (dA_cons (dE_c (μ := true) pe_int) (dA_cons (dE_op o_sub (dE_callB c_len (by rfl) m_len (by decide +kernel) (dA_cons (dE_ix (dE_var (μ := true) (pv 0)) (dE_c (μ := true) pe_int)) (dA_nil (μ := true)))) (dE_c (μ := true) pe_int)) (dA_nil (μ := true)))))) (dE_one (dE_cl C_is_number_from (hr.mono (by omega)) (by rfl) (dA_cons (dE_ix (dE_var (μ := true) (pv 1)) (dE_c (μ := true) pe_int)) (dA_cons (dE_c (μ := true) pe_int) (dA_cons (dE_c (μ := true) (pe_glob (v := .int 3000000000000000) (by rfl) g_LAST ⟨_, rfl⟩)) (dA_nil (μ := true)))))))))))), fun ds d l e => ?_⟩
  obtain ⟨⟨X, d⟩, hX, rfl, rfl⟩ := Sem.get e
  refine ⟨.rt (.bool (brR X d).isSome), ?_, rfl⟩
  have er : sRow [d, .int 3, .int 3] = some (.bool (isRow 3 3 d)) := rfl
  cases h : isRow 3 3 d with
  | false =>
    rw [brR_row h]
    exact (ev_guard (b := true) (by exact (ev_oOr (b := true) (ev_not (b := false) (ev_oB (ev_call rfl rfl (er.trans (by rw [h])))))).trans rfl) rfl).trans rfl
  | true =>
    obtain ⟨a, b, c, rfl⟩ := row3 h
    refine (ev_guard (b := !PyData.eqv a (S "brought")) (by exact (ev_oOr (b := false) (ev_not (b := true) (ev_oB (ev_call rfl rfl (er.trans (by rw [h])))))).trans (ev_oB (ev_e2 (a := a) (b := S "brought") rfl rfl (by cases a <;> rfl)))) rfl).trans ?_
    cases a with
    | str z =>
      by_cases hz : z = Str.ofString "brought"
      · subst hz
        rw [show (PyData.eqv (.str (Str.ofString "brought")) (S "brought")) = true by decide +kernel]
        refine ev_ret (ev_and (b := isFrom 0 ((X.ss.map Sr.d).length - 1) b) (ev_call (ds := [b, .int 0, .int ((X.ss.map Sr.d).length - 1)]) rfl rfl rfl) (fun h1 => ?_) (fun h1 => ?_))
        · refine (ev_call (ds := [c, .int 0, .int 3000000000000000]) rfl rfl rfl).trans ?_
          obtain ⟨i, rfl⟩ : ∃ i, b = .int i := by
            cases b <;> first | exact ⟨_, rfl⟩ | cases h1
          rw [List.length_map] at h1
          have hb := Bool.and_eq_true_iff.mp (show (decide (0 ≤ i) && decide (i ≤ (X.ss.length : Int) - 1)) = true from h1)
          have h0 := of_decide_eq_true hb.1
          have h2 := of_decide_eq_true hb.2
          cases c with
          | int t =>
            rw [brR_eq]
            show some (PyData.bool (decide (0 ≤ t) && decide (t ≤ 3000000000000000))) = _
            congr 2
            by_cases t0 : 0 ≤ t
            · by_cases t3 : t ≤ 3000000000000000
              · rw [if_pos ⟨rfl, h0, t0, t3⟩, decide_eq_true t0, decide_eq_true t3, List.getElem?_eq_getElem (by omega)]; rfl
              · rw [if_neg (fun e => t3 e.2.2.2), decide_eq_false t3, Bool.and_false]; rfl
            · rw [if_neg (fun e => t0 e.2.2.1), decide_eq_false t0]; rfl
          | none | bool _ | str _ | list _ | tuple _ | dict _ => rfl
        · have : brR X (.tuple [.str (Str.ofString "brought"), b, c]) = none := by
            cases b with
            | int i =>
              cases c with
              | int t =>
                rw [brR_eq]
                rw [List.length_map] at h1
                have h1 : (decide (0 ≤ i) && decide (i ≤ (X.ss.length : Int) - 1)) = false := h1
                by_cases e : Str.ofString "brought" = Str.ofString "brought" ∧ 0 ≤ i ∧ 0 ≤ t ∧ t ≤ 3000000000000000
                · rw [if_pos e]
                  rw [decide_eq_true e.2.1] at h1
                  have h1 := of_decide_eq_false h1
                  rw [List.getElem?_eq_none (by omega)]
                  rfl
                · exact if_neg e
              | none | bool _ | str _ | list _ | tuple _ | dict _ => rfl
            | none | bool _ | str _ | list _ | tuple _ | dict _ => rfl
          rw [this]
          rfl
      · rw [show (PyData.eqv (.str z) (S "brought")) = false from beq_false_of_ne hz, brR_ne hz]
        rfl
    | none | bool _ | int _ | list _ | tuple _ | dict _ => rfl
end
end Dl
namespace Dl
open PySem PySem.Spec PyProof.Rows L2 Rt
def mdR (X : Wd) (n : Int) : D → Option (Nat × Wy × Int × List Int)
  | .tuple [.str z, .int i, .int t, .tuple ds] => if z = Str.ofString "made" ∧ 0 ≤ i ∧ 0 ≤ t ∧ t ≤ 3000000000000000 then (X.ws[i.toNat]?).bind fun y => if ds.length = y.ps.length ∧ ds.all (isFrom 0 (n - 1)) = true then (intsD ds).map fun ns => (i.toNat, y, t, ns) else none else none
  | _ => none
theorem mdR_eq {X : Wd} {n : Int} {z : Str} {i t : Int} {ds : List D} : mdR X n (.tuple [.str z, .int i, .int t, .tuple ds]) = if z = Str.ofString "made" ∧ 0 ≤ i ∧ 0 ≤ t ∧ t ≤ 3000000000000000 then (X.ws[i.toNat]?).bind fun y => if ds.length = y.ps.length ∧ ds.all (isFrom 0 (n - 1)) = true then (intsD ds).map fun ns => (i.toNat, y, t, ns) else none else none := rfl
def SMdR : Sem (Wd × Int × D) where
  enc := fun (X, n, d) => [X.d, .int n, d]
  ok := fun (X, _, _) => X.ok
  out := fun (X, n, d) => .bool (mdR X n d).isSome
  fn := fun {x y} _ _ e => by
    obtain ⟨X, n, d⟩ := x
    obtain ⟨X', n', d'⟩ := y
    injection e with e1 e
    injection e with e2 e
    injection e with e3 e
    cases Wd.inj e1
    cases int_i e2
    cases e3
    rfl
theorem row4 {d : D} (h : isRow 4 4 d = true) : ∃ a b c e, d = .tuple [a, b, c, e] := by
  obtain ⟨ds, rfl⟩ : ∃ ds, d = .tuple ds := by
    cases d <;> first | exact ⟨_, rfl⟩ | cases h
  have h := Bool.and_eq_true_iff.mp (show (decide ((4 : Int) ≤ ds.length) && decide ((ds.length : Int) ≤ 4)) = true from h)
  have h1 := of_decide_eq_true h.1
  have h2 := of_decide_eq_true h.2
  match ds, h1, h2 with
  | [], h1, _ => exact absurd h1 (by decide)
  | [_], h1, _ => exact absurd h1 (by simp only [List.length_cons, List.length_nil]; omega)
  | [_, _], h1, _ => exact absurd h1 (by simp only [List.length_cons, List.length_nil]; omega)
  | [_, _, _], h1, _ => exact absurd h1 (by simp only [List.length_cons, List.length_nil]; omega)
  | [a, b, c, e], _, _ => exact ⟨a, b, c, e, rfl⟩
  | _ :: _ :: _ :: _ :: _ :: r, _, h2 => exact absurd h2 (by simp only [List.length_cons]; omega)
theorem mdR_row {X : Wd} {n : Int} {d : D} (h : isRow 4 4 d = false) : mdR X n d = none := by
  unfold mdR
  split
  · cases h
  · rfl
theorem mdR_none {X : Wd} {n : Int} {a b c e : D} (h : ∀ z i t ds, a = .str z → b = .int i → c = .int t → e = .tuple ds → mdR X n (.tuple [.str z, .int i, .int t, .tuple ds]) = none) : mdR X n (.tuple [a, b, c, e]) = none := by
  cases a <;> try rfl
  cases b <;> try rfl
  cases c <;> try rfl
  cases e <;> try rfl
  exact h _ _ _ _ rfl rfl rfl rfl
theorem ints_all {lo hi : Int} : ∀ {ds : List D}, ds.all (isFrom lo hi) = true → ∃ ns : List Int, ds = ns.map .int ∧ intsD ds = some ns ∧ ∀ n ∈ ns, lo ≤ n ∧ n ≤ hi
  | [], _ => ⟨[], rfl, rfl, fun n h => nomatch h⟩
  | d :: ds, h => by
    have h := Bool.and_eq_true_iff.mp (show (isFrom lo hi d && ds.all (isFrom lo hi)) = true from h)
    obtain ⟨ns, e1, e2, e3⟩ := ints_all h.2
    obtain ⟨i, rfl⟩ : ∃ i, d = .int i := by
      cases d <;> first | exact ⟨_, rfl⟩ | (exact absurd h.1 Bool.false_ne_true)
    have h1 := Bool.and_eq_true_iff.mp (show (decide (lo ≤ i) && decide (i ≤ hi)) = true from h.1)
    refine ⟨i :: ns, by rw [e1]; rfl, ?_, fun n hn => ?_⟩
    · show (intsD ds).map _ = _
      rw [e2]
      rfl
    · rcases List.mem_cons.mp hn with rfl | hn
      · exact ⟨of_decide_eq_true h1.1, of_decide_eq_true h1.2⟩
      · exact e3 n hn
theorem row_len {m : Nat} {ds : List D} : isRow m m (.tuple ds) = decide (ds.length = m) := by
  show (decide ((m : Int) ≤ ds.length) && decide ((ds.length : Int) ≤ m)) = _
  by_cases h : ds.length = m
  · rw [h]; simp
  · rw [decide_eq_false h]
    by_cases h1 : (m : Int) ≤ ds.length
    · rw [decide_eq_true h1, decide_eq_false (by omega)]; rfl
    · rw [decide_eq_false h1]; rfl
section
variable {P : Program} {w : World} {K : PySem.W.Frag} {mg : Str → Option Value} {base : Heap}
theorem ok_mdR {f : Addr} {fd : FuncData} {t1 : Tok} (F : Fun K "is_made_row" "is_made_row" s_is_made_row f fd) (g_LAST : mg "LAST" = some (.int 3000000000000000 t1)) (m_len : mg "len" = none) (m_all : mg "all" = none) (C_is_row : Cl P w K mg base 1 "is_row" ["thing", "fewest", "most"] (spD 3 sRow)) (C_is_number_from : Cl P w K mg base 2 "is_number_from" ["thing", "low", "high"] (spD 3 sFrom)) : FnOk P w K mg base CX0 3 f fd ["world", "ahead", "row"] (spD 3 SMdR.f) := by
  refine okFn F sc_is_made_row rfl fun cdv A outer s H E hr => ⟨_, (dSs_cons (dS_if (PW.pt (dW_or (dT_not (dT_val (dE_cl C_is_row (hr.mono (by omega)) (by rfl) (dA_cons (dE_var (μ := true) (pv 2)) (dA_cons (dE_c (μ := true) pe_int) (dA_cons (dE_c (μ := true) pe_int) (dA_nil (μ := true)))))))) (dW_or1 (dT_cmp (o_neQ hr.units) (dE_ix (dE_var (μ := true) (pv 2)) (dE_c (μ := true) pe_int)) (dE_c (μ := true) pe_str) (nomark _)))))
    (dSs_one (dS_ret (ps_ret (dE_c (μ := true) pe_bl))))
    dSs_nil)
  (dSs_cons (dS_asg (K := K) (p := (.tp (.cons (.nm 3) (.cons (.nm 4) (.cons (.nm 5) (.cons (.nm 6) .nil)))))) (ps_asg (dE_var (μ := true) (pv 2)) (pg_tup (by rfl) (pgs_cons (pg_name (i := 3) sc_is_made_row.nd rfl (.inl rfl)) (pgs_cons (pg_name (i := 4) sc_is_made_row.nd rfl (.inl rfl)) (pgs_cons (pg_name (i := 5) sc_is_made_row.nd rfl (.inl rfl)) (pgs_cons (pg_name (i := 6) sc_is_made_row.nd rfl (.inl rfl)) pgs_nil)))))))
  (dSs_cons (dS_if (PW.pt (dW_or (dT_not (dT_val (dE_cl C_is_number_from (hr.mono (by omega)) (by rfl) (dA_cons (dE_var (μ := true) (pv 4)) (dA_cons (dE_c (μ := true) pe_int) (dA_cons (dE_op o_sub (dE_callB c_len (by rfl) m_len (by decide +kernel) (dA_cons (dE_ix (dE_var (μ := true) (pv 0)) (dE_c (μ := true) pe_int)) (dA_nil (μ := true)))) (dE_c (μ := true) pe_int)) (dA_nil (μ := true)))))))) (dW_or1 (dT_not (dT_val (dE_cl C_is_number_from (hr.mono (by omega)) (by rfl) (dA_cons (dE_var (μ := true) (pv 5)) (dA_cons (dE_c (μ := true) pe_int) (dA_cons (dE_c (μ := true) (pe_glob (v := .int 3000000000000000) (by rfl) g_LAST ⟨_, rfl⟩)) (dA_nil (μ := true)))))))))))
    (dSs_one (dS_ret (ps_ret (dE_c (μ := true) pe_bl))))
    dSs_nil)
  (dSs_cons (dS_asg (K := K) (p := .nm 7) (ps_set (i := 7) sc_is_made_row.nd rfl (.inl rfl) (dE_callB c_len (by rfl) m_len (by decide +kernel) (dA_cons (dE_ix (dE_ix (dE_ix (dE_var (μ := true) (pv 0)) (dE_c (μ := true) pe_int)) (dE_var (μ := true) (pv 4))) (dE_c (μ := true) pe_int)) (dA_nil (μ := true))))))
  (dSs_one (dS_ret (ps_ret (dE_and (dE_cl C_is_row (hr.mono (by omega)) (by rfl) (dA_cons (dE_var (μ := true) (pv 6)) (dA_cons (dE_var (μ := true) (pv 7)) (dA_cons (dE_var (μ := true) (pv 7)) (dA_nil (μ := true)))))) (dE_one (dE_callB (c_all rfl) (by rfl) m_all (by decide +kernel) (dA_cons (dE_lc (K := K) (p := (.nm 8)) (pe_lc (own := [("part", 8)]) (g := gP K (.nm 8)) rfl sc_is_made_row.nd (dI_seq (dE_var (μ := true) (pv 6))) (blkOk_by (own := [("part", 8)]) (N := ["world", "ahead", "row", "word", "way", "moment", "parts", "many", "part"]) (sc := defScope s_is_made_row) (by decide +kernel)) (fun _ _ _ _ _ => (pg_name (i := 8) sc_is_made_row.nd rfl (.inl rfl))) (fun _ _ _ _ _ => dTs_nil) (fun _ _ _ _ _ => (dE_cl C_is_number_from (hr.mono (by omega)) (by rfl) (dA_cons (dE_var (μ := true) (pv 8)) (dA_cons (dE_c (μ := true) pe_int) (dA_cons (dE_op o_sub (dE_var (μ := true) (pv 1)) (dE_c (μ := true) pe_int)) (dA_nil (μ := true))))))))) (dA_nil (μ := true))))))))))))), fun ds d l e => ?_⟩
  obtain ⟨⟨X, n, d⟩, hX, rfl, rfl⟩ := Sem.get e
  refine ⟨.rt (.bool (mdR X n d).isSome), ?_, rfl⟩
  have er : sRow [d, .int 4, .int 4] = some (.bool (isRow 4 4 d)) := rfl
  cases h : isRow 4 4 d with
  | false =>
    rw [mdR_row h]
    exact (ev_guard (b := true) (by exact (ev_oOr (b := true) (ev_not (b := false) (ev_oB (ev_call rfl rfl (er.trans (by rw [h])))))).trans rfl) rfl).trans rfl
  | true =>
    obtain ⟨a, b, c, p, rfl⟩ := row4 h
    refine (ev_guard (b := !PyData.eqv a (S "made")) (by exact (ev_oOr (b := false) (ev_not (b := true) (ev_oB (ev_call rfl rfl (er.trans (by rw [h])))))).trans (ev_oB (ev_e2 (a := a) (b := S "made") rfl rfl (by cases a <;> rfl)))) rfl).trans ?_
    cases hz : PyData.eqv a (S "made") with
    | false =>
      rw [mdR_none fun z i t ds e1 _ _ _ => by
        subst e1
        rw [mdR_eq]
        exact if_neg fun e => by rw [e.1] at hz; exact absurd hz (by decide +kernel)]
      rfl
    | true =>
      obtain ⟨z, rfl⟩ : ∃ z, a = .str z := by
        cases a <;> first | exact ⟨_, rfl⟩ | cases hz
      have hz' : z = Str.ofString "made" := eq_of_beq (show (z == Str.ofString "made") = true from hz)
      subst hz'
      let R : Option LV → Rho := fun m => [some (.dat X.d), some (.dat (.int n)), some (.dat (.tuple [S "made", b, c, p])), some (.dat (S "made")), some (.dat b), some (.dat c), some (.dat p), m, none]
      refine (ev_asg (d := .tuple [S "made", b, c, p]) (ρ' := R none) rfl rfl).trans ?_
      cases hb : isFrom 0 ((X.ws.map Wy.d).length - 1) b with
      | false =>
        rw [mdR_none fun z i t ds _ e1 _ _ => by
          subst e1
          rw [mdR_eq]
          rw [List.length_map] at hb
          have hb : (decide (0 ≤ i) && decide (i ≤ (X.ws.length : Int) - 1)) = false := hb
          by_cases e : z = Str.ofString "made" ∧ 0 ≤ i ∧ 0 ≤ t ∧ t ≤ 3000000000000000
          · rw [if_pos e]
            rw [decide_eq_true e.2.1] at hb
            have hb := of_decide_eq_false hb
            rw [List.getElem?_eq_none (by omega)]
            rfl
          · exact if_neg e]
        exact (ev_guard (b := true) (by exact (ev_oOr (b := true) (ev_not (b := false) (ev_oB (ev_call (d := .bool false) (ds := [b, .int 0, .int ((X.ws.map Wy.d).length - 1)]) rfl rfl (by show some (PyData.bool (isFrom 0 ((X.ws.map Wy.d).length - 1) b)) = _; rw [hb]))))).trans rfl) rfl).trans rfl
      | true =>
        have o1 : ∀ {g : Rho → Option Bool}, oOr (oNot (oB (eCall (gN 3 sFrom) (aCons (eVar 4) (aCons (eC (.int 0)) (aCons (e2 subD (eCall lenD (aCons (e2 ixD (eVar 0) (eC (.int 3))) aNil)) (eC (.int 1))) aNil)))))) g (R none) = g (R none) := (ev_oOr (b := false) (ev_not (b := true) (ev_oB (ev_call (d := .bool true) (ds := [b, .int 0, .int ((X.ws.map Wy.d).length - 1)]) rfl rfl (by show some (PyData.bool (isFrom 0 ((X.ws.map Wy.d).length - 1) b)) = _; rw [hb])))))
        refine (ev_guard (b := !isFrom 0 3000000000000000 c) (by exact o1.trans (ev_not (ev_oB (ev_call (ds := [c, .int 0, .int 3000000000000000]) rfl rfl rfl)))) rfl).trans ?_
        obtain ⟨i, rfl⟩ : ∃ i, b = .int i := by
          cases b <;> first | exact ⟨_, rfl⟩ | cases hb
        rw [List.length_map] at hb
        have hb := Bool.and_eq_true_iff.mp (show (decide (0 ≤ i) && decide (i ≤ (X.ws.length : Int) - 1)) = true from hb)
        have h0 := of_decide_eq_true hb.1
        have h1 := of_decide_eq_true hb.2
        cases hc : isFrom 0 3000000000000000 c with
        | false =>
          rw [mdR_none fun z i t ds _ _ e1 _ => by
            subst e1
            rw [mdR_eq]
            exact if_neg fun e => by
              have hc : (decide (0 ≤ t) && decide (t ≤ 3000000000000000)) = false := hc
              rw [decide_eq_true e.2.2.1, decide_eq_true e.2.2.2] at hc
              cases hc]
          rfl
        | true =>
          obtain ⟨t, rfl⟩ : ∃ t, c = .int t := by
            cases c <;> first | exact ⟨_, rfl⟩ | cases hc
          have hc := Bool.and_eq_true_iff.mp (show (decide (0 ≤ t) && decide (t ≤ 3000000000000000)) = true from hc)
          have t0 := of_decide_eq_true hc.1
          have t3 := of_decide_eq_true hc.2
          obtain ⟨k, rfl⟩ : ∃ k : Nat, i = k := ⟨i.toNat, by omega⟩
          obtain ⟨y, hy⟩ : ∃ y, X.ws[k]? = some y := ⟨_, List.getElem?_eq_getElem (by omega)⟩
          have el : (y.ps.map Pt.d).length = y.ps.length := List.length_map ..
          refine (ev_asg (d := .int (y.ps.map Pt.d).length) (ρ' := R (some (.dat (.int (y.ps.map Pt.d).length)))) (by
            show eCall lenD (aCons (e2 ixD (e2 ixD (e2 ixD (eVar 0) (eC (.int 3))) (eVar 4)) (eC (.int 1))) aNil) (R none) = _
            have := ev_cons (f := e2 ixD (e2 ixD (e2 ixD (eVar 0) (eC (.int 3))) (eVar 4)) (eC (.int 1))) (g := aNil) (ρ := R none) (d := .tuple (y.ps.map Pt.d)) (ds := []) (ev_e2 (a := y.d) (b := .int 1) (ev_e2 (a := .tuple (X.ws.map Wy.d)) (b := .int k) rfl rfl (at_map hy)) rfl rfl) rfl
            unfold eCall
            rw [this]
            rfl) rfl).trans ?_
          rw [el]
          refine ev_ret (ev_and (b := isRow y.ps.length y.ps.length p) (ev_call (ds := [p, .int y.ps.length, .int y.ps.length]) rfl rfl rfl) (fun hw => ?_) (fun hw => ?_))
          · obtain ⟨ds, rfl⟩ : ∃ ds, p = .tuple ds := by
              cases p <;> first | exact ⟨_, rfl⟩ | cases hw
            rw [row_len] at hw
            refine (ev_all (xs := ds) (t := isFrom 0 (n - 1)) rfl (ev_lc (t := fun x => .bool (isFrom 0 (n - 1) x)) (by show 8 < 9; decide) ds fun x _ => ev_call (ds := [x, .int 0, .int (n - 1)]) rfl rfl rfl)).trans ?_
            rw [mdR_eq, if_pos ⟨rfl, h0, t0, t3⟩]
            show _ = some (PyData.bool ((X.ws[k]?).bind _).isSome)
            rw [hy]
            show _ = some (PyData.bool (if ds.length = y.ps.length ∧ ds.all (isFrom 0 (n - 1)) = true then (intsD ds).map _ else none).isSome)
            cases ha : ds.all (isFrom 0 (n - 1)) with
            | true =>
              obtain ⟨ns, _, e2, _⟩ := ints_all ha
              rw [if_pos ⟨of_decide_eq_true hw, rfl⟩, e2]
              rfl
            | false =>
              rw [if_neg fun e => Bool.false_ne_true e.2]
              rfl
          · cases p with
            | tuple ds =>
              rw [row_len] at hw
              have hw := of_decide_eq_false hw
              rw [mdR_eq, if_pos ⟨rfl, h0, t0, t3⟩]
              show _ = PyData.bool false
              show PyData.bool ((X.ws[k]?).bind _).isSome = _
              rw [hy]
              show PyData.bool (if ds.length = y.ps.length ∧ ds.all (isFrom 0 (n - 1)) = true then (intsD ds).map _ else none).isSome = _
              rw [if_neg fun e => hw e.1]
              rfl
            | none | bool _ | int _ | str _ | list _ | dict _ => rfl
end
end Dl
namespace Dl
open PySem PySem.Spec PyProof.Rows L2 Rt
/-! ### rows that stand, and what they tell of -/
inductive Rw where
  | br (j : Nat) (r : Sr) (t : Int)
  | md (j : Nat) (y : Wy) (t : Int) (ns : List Int)
def Rw.d : Rw → D
  | .br j _ t => .tuple [S "brought", .int (j : Nat), .int t]
  | .md j _ t ns => .tuple [S "made", .int (j : Nat), .int t, .tuple (ns.map .int)]
def Rw.ok (X : Wd) (n : Nat) : Rw → Prop
  | .br j r _ => X.ss[j]? = some r
  | .md j y _ ns => X.ws[j]? = some y ∧ ns.length = y.ps.length ∧ ∀ i ∈ ns, 0 ≤ i ∧ i ≤ (n : Int) - 1
def orgs (ts : List Tg) (ns : List Int) : List Int := ns.map fun i => ((ts[i.toNat]?).map Tg.o).getD 0
def orgO (y : Wy) (os : List Int) : Option Int := if y.kp = Str.ofString "oldest" then leastI os else mostI os
def tgOf (ts : List Tg) : Rw → Tg
  | .br _ r t => ⟨r.k, t - r.a, t⟩
  | .md _ y t ns => ⟨y.k, (orgO y (orgs ts ns)).getD 0, t + y.w⟩
theorem orgO_ex {y : Wy} {os : List Int} (h : 0 < os.length) : orgO y os = some ((orgO y os).getD 0) := by
  unfold orgO
  cases os with
  | nil => cases h
  | cons a os => split <;> rfl
theorem Rw.inj {X : Wd} {n : Nat} {x y : Rw} (hx : x.ok X n) (hy : y.ok X n) (e : x.d = y.d) : x = y := by
  cases x with
  | br j r t =>
    cases y with
    | br j' r' t' =>
      injection e with e
      injection e with e1 e
      injection e with e2 e
      injection e with e3 e
      cases nat_i e2
      cases int_i e3
      cases (show X.ss[j]? = some r from hx).symm.trans (show X.ss[j]? = some r' from hy)
      rfl
    | md j' y' t' ns' =>
      injection e with e
      injection e with e1 e
      injection e1 with e1
      exact absurd e1 (by decide +kernel)
  | md j y t ns =>
    cases y with
    | mk k ps kp hs w => cases ‹Rw› with
      | br j' r' t' =>
        injection e with e
        injection e with e1 e
        injection e1 with e1
        exact absurd e1 (by decide +kernel)
      | md j' y' t' ns' =>
        injection e with e
        injection e with e1 e
        injection e with e2 e
        injection e with e3 e
        injection e with e4 e
        cases nat_i e2
        cases int_i e3
        cases tup_inj int_i e4
        have h1 := hx.1.symm.trans hy.1
        cases h1
        rfl
def SThg : Sem (Wd × List Tg × Rw) where
  enc := fun (X, ts, r) => [X.d, .list (ts.map Tg.d), r.d]
  ok := fun (X, ts, r) => X.ok ∧ r.ok X ts.length
  out := fun (_, ts, r) => (tgOf ts r).d
  fn := fun {x y} hx hy e => by
    obtain ⟨X, ts, r⟩ := x
    obtain ⟨X', ts', r'⟩ := y
    injection e with e1 e
    injection e with e2 e
    injection e with e3 e
    injection e2 with e2
    cases Wd.inj e1
    cases map_inj Tg.inj e2
    cases Rw.inj hx.2 hy.2 e3
    rfl
theorem ev_lcG {p : Pat} {f : EF} {ρ : Rho} {α : Type} {e t : α → D} : ∀ (xs : List α), (∀ x ∈ xs, ∃ ρ1, bindP p (e x) ρ = some ρ1 ∧ f ρ1 = some (t x)) → lcGo p oYes f ρ (xs.map e) = some (xs.map t)
  | [], _ => rfl
  | x :: xs, h => by
    obtain ⟨ρ1, e1, e2⟩ := h x (by simp)
    show (bindP p (e x) ρ).bind _ = _
    rw [e1]
    show (f ρ1).bind _ = _
    rw [e2]
    show (lcGo _ _ _ _ _).map _ = _
    rw [ev_lcG xs fun y hy => h y (by simp [hy])]
    rfl
section
variable {P : Program} {w : World} {K : PySem.W.Frag} {mg : Str → Option Value} {base : Heap}
theorem ok_thing {f : Addr} {fd : FuncData} (F : Fun K "thing_of" "thing_of" s_thing_of f fd) (C_bears : Cl P w K mg base 1 "bears" ["world", "way", "moment", "origins"] (spD 4 SBea.f)) : FnOk P w K mg base CX0 2 f fd ["world", "told", "row"] (spD 3 SThg.f) := by
  refine okFn F sc_thing_of rfl fun cdv A outer s H E hr => ⟨_, (dSs_cons (dS_if (dT_cmp (o_eq hr.units) (dE_ix (dE_var (μ := true) (pv 2)) (dE_c (μ := true) pe_int)) (dE_c (μ := true) pe_str) (nomark _))
    (dSs_cons (dS_asg (K := K) (p := (.tp (.cons (.nm 3) (.cons (.nm 4) (.cons (.nm 5) (.cons (.nm 6) (.cons (.nm 7) .nil))))))) (ps_asg (dE_ix (dE_ix (dE_var (μ := true) (pv 0)) (dE_c (μ := true) pe_int)) (dE_ix (dE_var (μ := true) (pv 2)) (dE_c (μ := true) pe_int))) (pg_tup (by rfl) (pgs_cons (pg_name (i := 3) sc_thing_of.nd rfl (.inl rfl)) (pgs_cons (pg_name (i := 4) sc_thing_of.nd rfl (.inl rfl)) (pgs_cons (pg_name (i := 5) sc_thing_of.nd rfl (.inl rfl)) (pgs_cons (pg_name (i := 6) sc_thing_of.nd rfl (.inl rfl)) (pgs_cons (pg_name (i := 7) sc_thing_of.nd rfl (.inl rfl)) pgs_nil))))))))
  (dSs_one (dS_ret (ps_ret (dE_tup (dA_cons (dE_var (μ := true) (pv 3)) (dA_cons (dE_op o_sub (dE_ix (dE_var (μ := true) (pv 2)) (dE_c (μ := true) pe_int)) (dE_var (μ := true) (pv 4))) (dA_cons (dE_ix (dE_var (μ := true) (pv 2)) (dE_c (μ := true) pe_int)) (dA_nil (μ := true))))))))))
    dSs_nil)
  (dSs_cons (dS_asg (K := K) (p := (.tp (.cons (.nm 8) (.cons (.nm 9) (.cons (.nm 10) (.cons (.nm 11) .nil)))))) (ps_asg (dE_var (μ := true) (pv 2)) (pg_tup (by rfl) (pgs_cons (pg_name (i := 8) sc_thing_of.nd rfl (.inl rfl)) (pgs_cons (pg_name (i := 9) sc_thing_of.nd rfl (.inl rfl)) (pgs_cons (pg_name (i := 10) sc_thing_of.nd rfl (.inl rfl)) (pgs_cons (pg_name (i := 11) sc_thing_of.nd rfl (.inl rfl)) pgs_nil)))))))
  (dSs_cons (dS_asg (K := K) (p := (.tp (.cons (.nm 12) (.cons (.nm 13) .nil)))) (ps_asg (dE_cl C_bears (hr.mono (by omega)) (by rfl) (dA_cons (dE_var (μ := true) (pv 0)) (dA_cons (dE_var (μ := true) (pv 9)) (dA_cons (dE_var (μ := true) (pv 10)) (dA_cons (dE_lc (K := K) (p := (.nm 14)) (pe_lc (own := [("part", 14)]) (g := gP K (.nm 14)) rfl sc_thing_of.nd (dI_seq (dE_var (μ := true) (pv 11))) (blkOk_by (own := [("part", 14)]) (N := ["world", "told", "row", "kind", "age", "place", "since", "many", "word", "way", "moment", "parts", "origin", "born", "part"]) (sc := defScope s_thing_of) (by decide +kernel)) (fun _ _ _ _ _ => (pg_name (i := 14) sc_thing_of.nd rfl (.inl rfl))) (fun _ _ _ _ _ => dTs_nil) (fun _ _ _ _ _ => (dE_ix (dE_ix (dE_var (μ := true) (pv 1)) (dE_var (μ := true) (pv 14))) (dE_c (μ := true) pe_int))))) (dA_nil (μ := true))))))) (pg_tup (by rfl) (pgs_cons (pg_name (i := 12) sc_thing_of.nd rfl (.inl rfl)) (pgs_cons (pg_name (i := 13) sc_thing_of.nd rfl (.inl rfl)) pgs_nil)))))
  (dSs_one (dS_ret (ps_ret (dE_tup (dA_cons (dE_ix (dE_ix (dE_ix (dE_var (μ := true) (pv 0)) (dE_c (μ := true) pe_int)) (dE_var (μ := true) (pv 9))) (dE_c (μ := true) pe_int)) (dA_cons (dE_var (μ := true) (pv 12)) (dA_cons (dE_var (μ := true) (pv 13)) (dA_nil (μ := true)))))))))))), fun ds d l e => ?_⟩
  obtain ⟨⟨X, ts, r⟩, ⟨hX, ho⟩, rfl, rfl⟩ := Sem.get e
  refine ⟨.rt (tgOf ts r).d, ?_, rfl⟩
  cases r with
  | br j s t =>
    have g : X.ss[j]? = some s := ho
    refine (ev_if (b := true) (ev_oB (ev_e2 (a := S "brought") (b := S "brought") rfl rfl ((eq_ok (by decide +kernel) (by decide +kernel)).trans (congrArg (fun b => some (PyData.bool b)) (by decide +kernel)))))).trans ?_
    refine ev_seqR ?_
    refine (ev_asg (d := s.d) (ρ' := [some (.dat X.d), some (.dat (.list (ts.map Tg.d))), some (.dat (.tuple [S "brought", .int j, .int t])), some (.dat (.str s.k)), some (.dat (.int s.a)), some (.dat (.int s.p)), some (.dat (.int s.s)), some (.dat (.int s.m)), none, none, none, none, none, none, none]) (ev_e2 (a := .tuple (X.ss.map Sr.d)) (b := .int j) rfl rfl (at_map g)) rfl).trans rfl
  | md j y t ns =>
    obtain ⟨g, nl, hn⟩ := ho
    have hy := hX.ws y (List.mem_of_getElem? g)
    refine (ev_if (b := false) (ev_oB (ev_e2 (a := S "made") (b := S "brought") rfl rfl ((eq_ok (by decide +kernel) (by decide +kernel)).trans (congrArg (fun b => some (PyData.bool b)) (by decide +kernel)))))).trans ?_
    let R : Option LV → Option LV → Rho := fun a b => [some (.dat X.d), some (.dat (.list (ts.map Tg.d))), some (.dat (.tuple [S "made", .int j, .int t, .tuple (ns.map .int)])), none, none, none, none, none, some (.dat (S "made")), some (.dat (.int j)), some (.dat (.int t)), some (.dat (.tuple (ns.map .int))), a, b, none]
    show sSeq sNil _ _ = _
    refine (ev_seq (ρ' := [some (.dat X.d), some (.dat (.list (ts.map Tg.d))), some (.dat (.tuple [S "made", .int j, .int t, .tuple (ns.map .int)])), none, none, none, none, none, none, none, none, none, none, none, none]) rfl).trans ?_
    refine (ev_asg (d := .tuple [S "made", .int j, .int t, .tuple (ns.map .int)]) (ρ' := R none none) rfl rfl).trans ?_
    let o : Int := (orgO y (orgs ts ns)).getD 0
    have eo : orgO y (orgs ts ns) = some o := orgO_ex (by show 0 < (ns.map _).length; rw [List.length_map]; have := hy.p1; omega)
    have eb := Sem.of (S := SBea) (x := (X, j, y, t, orgs ts ns, o)) ⟨hX, g, eo⟩
    refine (ev_asg (d := .tuple [.int o, .int (t + y.w)]) (ρ' := R (some (.dat (.int o))) (some (.dat (.int (t + y.w))))) (ev_call (ds := [X.d, .int j, .int t, .list ((orgs ts ns).map .int)]) (ev_cons rfl (ev_cons rfl (ev_cons rfl (ev_cons (ev_lcE (items := ns.map .int) rfl ?_) rfl)))) rfl eb) rfl).trans ?_
    · show _ = some ((ns.map _).map _)
      rw [List.map_map]
      refine ev_lcG (e := PyData.int) (t := PyData.int ∘ fun i => ((ts[i.toNat]?).map Tg.o).getD 0) ns ?_
      intro i hi
      refine ⟨_, rfl, ?_⟩
      have := hn i hi
      obtain ⟨k, rfl⟩ : ∃ k : Nat, i = k := ⟨i.toNat, by omega⟩
      obtain ⟨q, hq⟩ : ∃ q, ts[k]? = some q := ⟨_, List.getElem?_eq_getElem (by omega)⟩
      show _ = some (PyData.int (((ts[k]?).map Tg.o).getD 0))
      rw [hq]
      exact ev_e2 (a := q.d) (b := .int 1) (ev_e2 (a := .list (ts.map Tg.d)) (b := .int k) rfl rfl (at_map hq)) rfl rfl
    have ez := ev_e2 (g := ixD) (f1 := e2 ixD (e2 ixD (eVar 0) (eC (.int 3))) (eVar 9)) (f2 := eC (.int 0)) (ρ := R (some (.dat (.int o))) (some (.dat (.int (t + y.w))))) (a := y.d) (b := .int 0) (d := .str y.k) (ev_e2 (a := .tuple (X.ws.map Wy.d)) (b := .int j) rfl rfl (at_map g)) rfl rfl
    refine ev_ret ?_
    show eTup _ _ = _
    unfold eTup
    rw [ev_cons ez (rfl : aCons (eVar 12) (aCons (eVar 13) aNil) _ = some [.int o, .int (t + y.w)])]
    rfl
end
end Dl
namespace Dl
open PySem PySem.Spec PyProof.Rows L2 Rt
def tgAt (ts : List Tg) (i : Int) : Tg := (ts[i.toNat]?).getD ⟨Str.ofString "", 0, 0⟩
def wrd (X : Wd) (ts : List Tg) (d : D) : Option Str := match brR X d with
  | some (_, r, t) => if (decide (t ≥ r.s) && (t % X.n == r.p)) = true then none else some (Str.ofString "moment")
  | none => match mdR X ts.length d with
    | none => some (Str.ofString "row")
    | some (_, y, t, ns) => if y.hs.any (· == t % X.n) = true then (if (y.ps.zip ns).all (fun z => fitB z.1 (tgAt ts z.2) t) = true then none else some (Str.ofString "part")) else some (Str.ofString "moment")
def wD : Option Str → D
  | none => .none
  | some z => .str z
def SWrd : Sem (Wd × List Tg × D) where
  enc := fun (X, ts, d) => [X.d, .list (ts.map Tg.d), d]
  ok := fun (X, ts, _) => X.ok ∧ ∀ g ∈ ts, PyData.strOk g.k = true
  out := fun (X, ts, d) => wD (wrd X ts d)
  fn := fun {x y} _ _ e => by
    obtain ⟨X, ts, r⟩ := x
    obtain ⟨X', ts', r'⟩ := y
    injection e with e1 e
    injection e with e2 e
    injection e with e3 e
    injection e2 with e2
    cases Wd.inj e1
    cases map_inj Tg.inj e2
    cases e3
    rfl
theorem brR_get {X : Wd} {d : D} {j : Nat} {r : Sr} {t : Int} (h : brR X d = some (j, r, t)) : d = (Rw.br j r t).d ∧ X.ss[j]? = some r ∧ 0 ≤ t ∧ t ≤ 3000000000000000 := by
  unfold brR at h
  split at h
  · rename_i z i t'
    by_cases c : z = Str.ofString "brought" ∧ 0 ≤ i ∧ 0 ≤ t' ∧ t' ≤ 3000000000000000
    · rw [if_pos c] at h
      obtain ⟨r', e, e2⟩ := some_map h
      injection e2 with e3 e4
      injection e4 with e4 e5
      subst e3
      subst e4
      subst e5
      obtain ⟨rfl, h0, t0, t1⟩ := c
      refine ⟨?_, e, t0, t1⟩
      show PyData.tuple [.str (Str.ofString "brought"), .int i, .int t'] = .tuple [S "brought", .int (i.toNat : Nat), .int t']
      rw [show ((i.toNat : Nat) : Int) = i by omega]
      rfl
    · rw [if_neg c] at h
      cases h
  · cases h
theorem mdR_get {X : Wd} {n : Nat} {d : D} {j : Nat} {y : Wy} {t : Int} {ns : List Int} (h : mdR X n d = some (j, y, t, ns)) : d = (Rw.md j y t ns).d ∧ (Rw.md j y t ns).ok X n ∧ 0 ≤ t ∧ t ≤ 3000000000000000 := by
  unfold mdR at h
  split at h
  · rename_i z i t' ds
    by_cases c : z = Str.ofString "made" ∧ 0 ≤ i ∧ 0 ≤ t' ∧ t' ≤ 3000000000000000
    · rw [if_pos c] at h
      obtain ⟨y', ey, h⟩ := some_bind h
      by_cases c2 : ds.length = y'.ps.length ∧ ds.all (isFrom 0 ((n : Int) - 1)) = true
      · rw [if_pos c2] at h
        obtain ⟨ns', e, e2⟩ := some_map h
        obtain ⟨ms, b1, b2, b3⟩ := ints_all c2.2
        injection e2 with e3 e4
        injection e4 with e4 e5
        injection e5 with e5 e6
        have e7 : ms = ns := by
          rw [b2] at e
          injection e with e
          rw [e, e6]
        subst e7
        subst e3
        subst e4
        subst e5
        obtain ⟨rfl, h0, t0, t1⟩ := c
        refine ⟨?_, ⟨ey, ?_, b3⟩, t0, t1⟩
        · show PyData.tuple [.str (Str.ofString "made"), .int i, .int t', .tuple ds] = .tuple [S "made", .int (i.toNat : Nat), .int t', .tuple (ms.map .int)]
          rw [show ((i.toNat : Nat) : Int) = i by omega, b1]
          rfl
        · have := c2.1
          rw [b1, List.length_map] at this
          exact this
      · rw [if_neg c2] at h
        cases h
    · rw [if_neg c] at h
      cases h
  · cases h
theorem zp_map {α β : Type} {f : α → D} {g : β → D} : ∀ (as : List α) (bs : List β), zpGo (as.map f) (bs.map g) = (as.zip bs).map fun x => .tuple [f x.1, g x.2]
  | [], bs => by cases bs <;> rfl
  | a :: as, [] => rfl
  | a :: as, b :: bs => by
    show PyData.tuple [f a, g b] :: zpGo (as.map f) (bs.map g) = _
    rw [zp_map as bs]
    rfl
section
variable {P : Program} {w : World} {K : PySem.W.Frag} {mg : Str → Option Value} {base : Heap}
theorem ok_word {f : Addr} {fd : FuncData} (F : Fun K "row_word" "row_word" s_row_word f fd) (m_len : mg "len" = none) (m_all : mg "all" = none) (m_zip : mg "zip" = none) (C_is_brought_row : Cl P w K mg base 3 "is_brought_row" ["world", "row"] (spD 2 SBrR.f)) (C_brings : Cl P w K mg base 2 "brings" ["world", "source", "moment"] (spD 3 SBri.f)) (C_is_made_row : Cl P w K mg base 3 "is_made_row" ["world", "ahead", "row"] (spD 3 SMdR.f)) (C_opens : Cl P w K mg base 2 "opens" ["world", "way", "moment"] (spD 3 SOpn.f)) (C_fits : Cl P w K mg base 1 "fits" ["window", "thing", "moment"] (spD 3 SFit.f)) : FnOk P w K mg base CX0 4 f fd ["world", "told", "row"] (spD 3 SWrd.f) := by
  refine okFn F sc_row_word rfl fun cdv A outer s H E hr => ⟨_, (dSs_cons (dS_if (dT_val (dE_cl C_is_brought_row (hr.mono (by omega)) (by rfl) (dA_cons (dE_var (μ := true) (pv 0)) (dA_cons (dE_var (μ := true) (pv 2)) (dA_nil (μ := true))))))
    (dSs_one (dS_ret (ps_ret (dE_if (dT_val (dE_cl C_brings (hr.mono (by omega)) (by rfl) (dA_cons (dE_var (μ := true) (pv 0)) (dA_cons (dE_ix (dE_var (μ := true) (pv 2)) (dE_c (μ := true) pe_int)) (dA_cons (dE_ix (dE_var (μ := true) (pv 2)) (dE_c (μ := true) pe_int)) (dA_nil (μ := true))))))) (dE_c (μ := true) pe_non) (dE_c (μ := true) pe_str)))))
    dSs_nil)
  (dSs_cons (dS_if (dT_not (dT_val (dE_cl C_is_made_row (hr.mono (by omega)) (by rfl) (dA_cons (dE_var (μ := true) (pv 0)) (dA_cons (dE_callB c_len (by rfl) m_len (by decide +kernel) (dA_cons (dE_var (μ := true) (pv 1)) (dA_nil (μ := true)))) (dA_cons (dE_var (μ := true) (pv 2)) (dA_nil (μ := true))))))))
    (dSs_one (dS_ret (ps_ret (dE_c (μ := true) pe_str))))
    dSs_nil)
  (dSs_cons (dS_asg (K := K) (p := (.tp (.cons (.nm 3) (.cons (.nm 4) (.cons (.nm 5) (.cons (.nm 6) .nil)))))) (ps_asg (dE_var (μ := true) (pv 2)) (pg_tup (by rfl) (pgs_cons (pg_name (i := 3) sc_row_word.nd rfl (.inl rfl)) (pgs_cons (pg_name (i := 4) sc_row_word.nd rfl (.inl rfl)) (pgs_cons (pg_name (i := 5) sc_row_word.nd rfl (.inr rfl)) (pgs_cons (pg_name (i := 6) sc_row_word.nd rfl (.inl rfl)) pgs_nil)))))))
  (dSs_cons (dS_if (dT_not (dT_val (dE_cl C_opens (hr.mono (by omega)) (by rfl) (dA_cons (dE_var (μ := true) (pv 0)) (dA_cons (dE_var (μ := true) (pv 4)) (dA_cons (dE_var (μ := true) (pv 5)) (dA_nil (μ := true))))))))
    (dSs_one (dS_ret (ps_ret (dE_c (μ := true) pe_str))))
    dSs_nil)
  (dSs_cons (dS_asg (K := K) (p := .nm 7) (ps_set (i := 7) sc_row_word.nd rfl (.inl rfl) (dE_ix (dE_ix (dE_ix (dE_var (μ := true) (pv 0)) (dE_c (μ := true) pe_int)) (dE_var (μ := true) (pv 4))) (dE_c (μ := true) pe_int))))
  (dSs_cons (dS_if (dT_val (dE_callB (c_all rfl) (by rfl) m_all (by decide +kernel) (dA_cons (dE_lc (K := K) (p := (.tp (.cons (.nm 8) (.cons (.nm 9) .nil)))) (pe_lc (own := [("window", 8), ("part", 9)]) (g := gP K (.tp (.cons (.nm 8) (.cons (.nm 9) .nil)))) rfl sc_row_word.nd (dI_zip (by rfl) m_zip (dA_cons (dE_var (μ := true) (pv 7)) (dA_cons (dE_var (μ := true) (pv 6)) (dA_nil (μ := true))))) (blkOk_by (own := [("window", 8), ("part", 9)]) (N := ["world", "told", "row", "word", "way", "moment", "parts", "windows", "window", "part"]) (sc := defScope s_row_word) (by decide +kernel)) (fun _ _ _ _ _ => (pg_tup (by rfl) (pgs_cons (pg_name (i := 8) sc_row_word.nd rfl (.inl rfl)) (pgs_cons (pg_name (i := 9) sc_row_word.nd rfl (.inl rfl)) pgs_nil)))) (fun _ _ _ _ _ => dTs_nil) (fun _ _ _ _ _ => (dE_cl C_fits (hr.mono (by omega)) (by rfl) (dA_cons (dE_var (μ := true) (pv 8)) (dA_cons (dE_ix (dE_var (μ := true) (pv 1)) (dE_var (μ := true) (pv 9))) (dA_cons (dE_var (μ := true) (pv 5)) (dA_nil (μ := true))))))))) (dA_nil (μ := true)))))
    (dSs_one (dS_ret (ps_ret (dE_c (μ := true) pe_non))))
    dSs_nil)
  (dSs_one (dS_ret (ps_ret (dE_c (μ := true) pe_str)))))))))), fun ds d l e => ?_⟩
  obtain ⟨⟨X, ts, d⟩, ⟨hX, ho⟩, rfl, rfl⟩ := Sem.get e
  refine ⟨.rt (wD (wrd X ts d)), ?_, rfl⟩
  let ρ0 : Rho := [some (.dat X.d), some (.dat (.list (ts.map Tg.d))), some (.dat d), none, none, none, none, none, none, none]
  have e1 := Sem.of (S := SBrR) (x := (X, d)) hX
  have tl : (ts.map Tg.d).length = ts.length := List.length_map ..
  have em := Sem.of (S := SMdR) (x := (X, (ts.length : Int), d)) hX
  unfold wrd
  cases hb : brR X d with
  | some q =>
    obtain ⟨j, r, t⟩ := q
    obtain ⟨rfl, g, _⟩ := brR_get hb
    refine (ev_if (b := true) (ev_oB (ev_call (ds := [X.d, (Rw.br j r t).d]) rfl rfl (e1.trans (by show some (PyData.bool (brR X _).isSome) = _; rw [hb]; rfl))))).trans ?_
    refine ev_seqR (ev_ret (ev_eIf (b := (decide (t ≥ r.s) && (t % X.n == r.p))) (ev_oB (ev_call (ds := [X.d, .int j, .int t]) rfl rfl (Sem.of (S := SBri) (x := (X, j, r, t)) ⟨hX, g⟩))) ?_))
    show (if (decide (t ≥ r.s) && (t % X.n == r.p)) = true then _ else _) = some (wD (if (decide (t ≥ r.s) && (t % X.n == r.p)) = true then none else some (Str.ofString "moment")))
    cases (decide (t ≥ r.s) && (t % X.n == r.p)) <;> rfl
  | none =>
    refine (ev_if (b := false) (ev_oB (ev_call (ds := [X.d, d]) rfl rfl (e1.trans (by show some (PyData.bool (brR X _).isSome) = _; rw [hb]; rfl))))).trans ?_
    show sSeq sNil _ ρ0 = _
    refine (ev_seq (ρ' := ρ0) rfl).trans ?_
    show _ = some (Out.rt (wD (match mdR X ts.length d with
      | none => some (Str.ofString "row")
      | some (_, y, t, ns) => if y.hs.any (· == t % X.n) = true then (if (y.ps.zip ns).all (fun z => fitB z.1 (tgAt ts z.2) t) = true then none else some (Str.ofString "part")) else some (Str.ofString "moment"))))
    cases hm : mdR X ts.length d with
    | none => exact (ev_guard (b := true) (by exact ev_not (b := false) (ev_oB (ev_call (ds := [X.d, .int (ts.map Tg.d).length, d]) rfl rfl (by rw [tl]; exact em.trans (by show some (PyData.bool (mdR X _ d).isSome) = _; rw [hm]; rfl))))) rfl).trans rfl
    | some q =>
      obtain ⟨j, y, t, ns⟩ := q
      obtain ⟨rfl, ⟨g, nl, hn⟩, _⟩ := mdR_get hm
      have hy := hX.ws y (List.mem_of_getElem? g)
      refine (ev_guard (b := false) (by exact ev_not (b := true) (ev_oB (ev_call (ds := [X.d, .int (ts.map Tg.d).length, (Rw.md j y t ns).d]) rfl rfl (by rw [tl]; exact em.trans (by show some (PyData.bool (mdR X _ _).isSome) = _; rw [hm]; rfl))))) rfl).trans ?_
      let R : Option LV → Rho := fun a => [some (.dat X.d), some (.dat (.list (ts.map Tg.d))), some (.dat (Rw.md j y t ns).d), some (.dat (S "made")), some (.dat (.int j)), some (.dat (.int t)), some (.dat (.tuple (ns.map .int))), a, none, none]
      refine (ev_asg (d := (Rw.md j y t ns).d) (ρ' := R none) rfl rfl).trans ?_
      refine (ev_guard (b := !y.hs.any (· == t % X.n)) (by exact ev_not (ev_oB (ev_call (ds := [X.d, .int j, .int t]) rfl rfl (Sem.of (S := SOpn) (x := (X, j, y, t)) ⟨hX, g⟩)))) rfl).trans ?_
      show _ = some (Out.rt (wD (if y.hs.any (· == t % X.n) = true then (if (y.ps.zip ns).all (fun z => fitB z.1 (tgAt ts z.2) t) = true then none else some (Str.ofString "part")) else some (Str.ofString "moment"))))
      cases hh : y.hs.any (· == t % X.n) with
      | false => rfl
      | true =>
        refine (ev_asg (d := .tuple (y.ps.map Pt.d)) (ρ' := R (some (.dat (.tuple (y.ps.map Pt.d))))) (ev_e2 (a := y.d) (b := .int 1) (ev_e2 (a := .tuple (X.ws.map Wy.d)) (b := .int j) rfl rfl (at_map g)) rfl rfl) rfl).trans ?_
        have ea : ∀ (ρ : Rho), ρ = R (some (.dat (.tuple (y.ps.map Pt.d)))) → _ := fun ρ hρ => ev_all (μ := true) (vs := [8, 9]) (it := itG zpD (aCons (eVar 7) (aCons (eVar 6) aNil))) (p := .tp (.cons (.nm 8) (.cons (.nm 9) .nil))) (c := oYes) (f := eCall (gN 3 SFit.f) (aCons (eVar 8) (aCons (e2 ixD (eVar 1) (eVar 9)) (aCons (eVar 5) aNil)))) (ρ := ρ) (xs := y.ps.zip ns) (t := fun z => fitB z.1 (tgAt ts z.2) t) (items := zpGo (y.ps.map Pt.d) (ns.map .int)) (by rw [hρ]; rfl) (by
          subst hρ
          rw [zp_map]
          refine ev_lcG (t := fun z : Pt × Int => .bool (fitB z.1 (tgAt ts z.2) t)) _ ?_
          intro z hz
          have hz2 := List.of_mem_zip hz
          obtain ⟨p, i⟩ := z
          have := hn i hz2.2
          obtain ⟨k, rfl⟩ : ∃ k : Nat, i = k := ⟨i.toNat, by omega⟩
          obtain ⟨q, hq⟩ : ∃ q, ts[k]? = some q := ⟨_, List.getElem?_eq_getElem (by omega)⟩
          have eq : tgAt ts k = q := by
            show (ts[k]?).getD _ = q
            rw [hq]
            rfl
          refine ⟨_, rfl, ev_call (ds := [p.d, q.d, .int t]) (ev_cons rfl (ev_cons (ev_e2 (a := .list (ts.map Tg.d)) (b := .int k) rfl rfl (at_map hq)) rfl)) rfl ?_⟩
          show _ = some (PyData.bool (fitB p (tgAt ts k) t))
          rw [eq]
          exact Sem.of (S := SFit) (x := (p, q, t)) ⟨(hX.ks _ (hy.ps p hz2.1).k).1, ho q (List.mem_of_getElem? hq)⟩)
        refine (ev_guard (b := (y.ps.zip ns).all fun z => fitB z.1 (tgAt ts z.2) t) (by exact ev_oB (ea _ rfl)) rfl).trans ?_
        rw [if_pos rfl]
        cases (y.ps.zip ns).all fun z => fitB z.1 (tgAt ts z.2) t <;> rfl
end
end Dl
namespace Dl
open PySem PySem.Spec PyProof.Rows L2 Rt
/-! ### a paper, row by row -/
def rwOf (X : Wd) (n : Nat) (d : D) : Option Rw := match brR X d with
  | some (j, r, t) => some (.br j r t)
  | none => match mdR X n d with
    | some (j, y, t, ns) => some (.md j y t ns)
    | none => none
theorem rwOf_ok {X : Wd} {n : Nat} {d : D} {r : Rw} (h : rwOf X n d = some r) : d = r.d ∧ r.ok X n := by
  unfold rwOf at h
  cases hb : brR X d with
  | some q =>
    obtain ⟨j, s, t⟩ := q
    rw [hb] at h
    cases h
    exact ⟨(brR_get hb).1, (brR_get hb).2.1⟩
  | none =>
    rw [hb] at h
    cases hm : mdR X n d with
    | some q =>
      obtain ⟨j, y, t, ns⟩ := q
      have h : (match mdR X n d with | some (j, y, t, ns) => some (Rw.md j y t ns) | none => none) = some r := h
      rw [hm] at h
      cases h
      exact ⟨(mdR_get hm).1, (mdR_get hm).2.1⟩
    | none =>
      have h : (match mdR X n d with | some (j, y, t, ns) => some (Rw.md j y t ns) | none => none) = some r := h
      rw [hm] at h
      cases h
theorem wrd_rw {X : Wd} {ts : List Tg} {d : D} (h : wrd X ts d = none) : ∃ r, rwOf X ts.length d = some r := by
  unfold wrd at h
  unfold rwOf
  cases hb : brR X d with
  | some q => exact ⟨_, rfl⟩
  | none =>
    rw [hb] at h
    have h : (match mdR X ts.length d with
      | none => some (Str.ofString "row")
      | some (_, y, t, ns) => if y.hs.any (· == t % X.n) = true then (if (y.ps.zip ns).all (fun z => fitB z.1 (tgAt ts z.2) t) = true then none else some (Str.ofString "part")) else some (Str.ofString "moment")) = none := h
    cases hm : mdR X ts.length d with
    | some q => exact ⟨_, rfl⟩
    | none =>
      rw [hm] at h
      cases h
/-- what the walk down a paper finds, from the k-th row on -/
def walkP (X : Wd) : Nat → List Tg → List D → Option (Nat × Str) × List Tg
  | _, ts, [] => (none, ts)
  | k, ts, d :: ds => match wrd X ts d with
    | some w => (some (k, w), ts)
    | none => match rwOf X ts.length d with
      | some r => walkP X (k + 1) (ts ++ [tgOf ts r]) ds
      | none => (none, ts)
def fltD : Option (Nat × Str) → D
  | none => .none
  | some (k, w) => .tuple [.int (k : Nat), .str w]
def folD (X : Wd) : D → D
  | .tuple (d :: ds) => .tuple [fltD (walkP X 0 [] (d :: ds)).1, .list ((walkP X 0 [] (d :: ds)).2.map Tg.d)]
  | _ => .tuple [.tuple [.int (-1), S "paper"], .list []]
def SFol : Sem (Wd × D) where
  enc := fun (X, d) => [X.d, d]
  ok := fun (X, d) => X.ok ∧ gq d = true
  out := fun (X, d) => folD X d
  fn := fun {x y} _ _ e => by
    obtain ⟨X, d⟩ := x
    obtain ⟨X', d'⟩ := y
    injection e with e1 e
    injection e with e2 e
    cases Wd.inj e1
    cases e2
    rfl
noncomputable def folB : Rho → Option Out := sSeq (sAsg (.nm 5) (eStr (eCall (gN 3 SWrd.f) (aCons (eVar 0) (aCons (eOwn 2) (aCons (eVar 4) aNil)))))) (sSeq (sIf (oB (e2 noND (eVar 5) (eC .none))) (sRet (eTup (aCons (eTup (aCons (eVar 3) (aCons (eVar 5) aNil))) (aCons (eOwn 2) aNil)))) sNil) (sApp 2 (aCons (eStr (eCall (gN 3 SThg.f) (aCons (eVar 0) (aCons (eOwn 2) (aCons (eVar 4) aNil))))) aNil)))
def folR (X : Wd) (d : D) (ts : List Tg) (x y z : Option LV) : Rho := [some (.dat X.d), some (.dat d), some (.own (ts.map Tg.d)), x, y, z]
theorem ev_e1 {g : D → Option D} {f : EF} {ρ : Rho} {a d : D} (h : f ρ = some a) (hg : g a = some d) : e1 g f ρ = some d := by
  unfold e1
  rw [h]
  exact hg
theorem ev_eStr {f : EF} {ρ : Rho} {d : D} (h : f ρ = some d) (hn : nl d = true) : eStr f ρ = some d := by
  unfold eStr
  rw [h]
  exact if_pos hn
theorem tgOf_ok {X : Wd} (hX : X.ok) {ts : List Tg} {r : Rw} (h : r.ok X ts.length) : PyData.strOk (tgOf ts r).k = true := by
  cases r with
  | br j s t => exact (hX.ks _ (hX.ss s (List.mem_of_getElem? h)).k).1
  | md j y t ns => exact (hX.ks _ (hX.ws y (List.mem_of_getElem? h.1)).k).1
theorem walk_for {X : Wd} (hX : X.ok) {D0 : D} : ∀ (ds : List D) (k : Nat) (ts : List Tg) (x y z : Option LV), (∀ g ∈ ts, PyData.strOk g.k = true) → ts.length + ds.length ≤ 1000 →
    (∃ q, (walkP X k ts ds).1 = some q ∧ forGo (.tp (.cons (.nm 3) (.cons (.nm 4) .nil))) folB (enGo k ds) (folR X D0 ts x y z) = some (.rt (.tuple [fltD (some q), .list ((walkP X k ts ds).2.map Tg.d)]))) ∨ ((walkP X k ts ds).1 = none ∧ ∃ x' y' z', forGo (.tp (.cons (.nm 3) (.cons (.nm 4) .nil))) folB (enGo k ds) (folR X D0 ts x y z) = some (.nx (folR X D0 (walkP X k ts ds).2 x' y' z')))
  | [], k, ts, x, y, z, _, _ => .inr ⟨rfl, x, y, z, rfl⟩
  | d :: ds, k, ts, x, y, z, hs, hl => by
    rw [List.length_cons] at hl
    have e1 : bindP (.tp (.cons (.nm 3) (.cons (.nm 4) .nil))) (.tuple [.int (k : Nat), d]) (folR X D0 ts x y z) = some (folR X D0 ts (some (.dat (.int k))) (some (.dat d)) z) := rfl
    have ew := Sem.of (S := SWrd) (x := (X, ts, d)) ⟨hX, hs⟩
    have nw : nl (wD (wrd X ts d)) = true := by cases wrd X ts d <;> rfl
    have ea : folB (folR X D0 ts (some (.dat (.int k))) (some (.dat d)) z) = _ := ev_asg (d := wD (wrd X ts d)) (ρ' := folR X D0 ts (some (.dat (.int k))) (some (.dat d)) (some (.dat (wD (wrd X ts d))))) (ev_eStr (ev_call (ds := [X.d, .list (ts.map Tg.d), d]) rfl rfl ew) nw) rfl
    cases hw : wrd X ts d with
    | some wv =>
      have ewk : walkP X k ts (d :: ds) = (some (k, wv), ts) := by
        unfold walkP
        rw [hw]
      rw [ewk]
      refine .inl ⟨(k, wv), rfl, ev_forR e1 (ea.trans ?_)⟩
      rw [hw]
      exact (ev_guard (b := true) rfl rfl).trans rfl
    | none =>
      obtain ⟨r, hr⟩ := wrd_rw hw
      obtain ⟨rfl, ro⟩ := rwOf_ok hr
      have ewk : walkP X k ts (r.d :: ds) = walkP X (k + 1) (ts ++ [tgOf ts r]) ds := by
        conv => lhs; unfold walkP
        rw [hw]
        show (match rwOf X ts.length r.d with | some r => walkP X (k + 1) (ts ++ [tgOf ts r]) ds | none => (none, ts)) = _
        rw [hr]
      have et := Sem.of (S := SThg) (x := (X, ts, r)) ⟨hX, ro⟩
      have eb : folB (folR X D0 ts (some (.dat (.int k))) (some (.dat r.d)) z) = some (.nx (folR X D0 (ts ++ [tgOf ts r]) (some (.dat (.int k))) (some (.dat r.d)) (some (.dat .none)))) := by
        rw [ea, hw]
        refine (ev_seq (ρ' := folR X D0 ts (some (.dat (.int k))) (some (.dat r.d)) (some (.dat .none))) rfl).trans ?_
        have ec : aCons (eStr (eCall (gN 3 SThg.f) (aCons (eVar 0) (aCons (eOwn 2) (aCons (eVar 4) aNil))))) aNil (folR X D0 ts (some (.dat (.int k))) (some (.dat r.d)) (some (.dat .none))) = some [(tgOf ts r).d] := ev_cons (ev_eStr (ev_call (ds := [X.d, .list (ts.map Tg.d), r.d]) rfl rfl et) rfl) rfl
        show (aCons (eStr (eCall (gN 3 SThg.f) (aCons (eVar 0) (aCons (eOwn 2) (aCons (eVar 4) aNil))))) aNil (folR X D0 ts (some (.dat (.int k))) (some (.dat r.d)) (some (.dat .none)))).bind _ = _
        rw [ec]
        show (if (ts.map Tg.d).length < sizeLine then _ else none) = _
        rw [if_pos (Nat.lt_of_lt_of_le (show (ts.map Tg.d).length < 1001 by rw [List.length_map]; omega) (by decide))]
        show some (Out.nx [some (LV.dat X.d), some (.dat D0), some (.own (ts.map Tg.d ++ [(tgOf ts r).d])), _, _, _]) = _
        unfold folR
        rw [List.map_append]
        rfl
      have ih := walk_for hX (D0 := D0) ds (k + 1) (ts ++ [tgOf ts r]) (some (.dat (.int k))) (some (.dat r.d)) (some (.dat .none)) (fun g hg => by
        rcases List.mem_append.mp hg with hg | hg
        · exact hs g hg
        · rw [List.mem_singleton.mp hg]; exact tgOf_ok hX ro) (by rw [List.length_append, List.length_singleton]; omega)
      rw [ewk]
      have ef : forGo (.tp (.cons (.nm 3) (.cons (.nm 4) .nil))) folB (enGo k (r.d :: ds)) (folR X D0 ts x y z) = forGo (.tp (.cons (.nm 3) (.cons (.nm 4) .nil))) folB (enGo (k + 1) ds) (folR X D0 (ts ++ [tgOf ts r]) (some (.dat (.int k))) (some (.dat r.d)) (some (.dat .none))) := ev_forC e1 eb
      rw [ef]
      exact ih
section
variable {P : Program} {w : World} {K : PySem.W.Frag} {mg : Str → Option Value} {base : Heap}
theorem ok_fol {f : Addr} {fd : FuncData} (F : Fun K "followed" "followed" s_followed f fd) (m_isinstance : mg "isinstance" = none) (m_tuple : mg "tuple" = none) (m_enumerate : mg "enumerate" = none) (C_row_word : Cl P w K mg base 4 "row_word" ["world", "told", "row"] (spD 3 SWrd.f)) (C_thing_of : Cl P w K mg base 2 "thing_of" ["world", "told", "row"] (spD 3 SThg.f)) : FnOk P w K mg base CX0 5 f fd ["world", "thing"] (spD 2 SFol.f) := by
  refine okFn F sc_followed rfl fun cdv A outer s H E hr => ⟨_, (dSs_cons (dS_own (ps_set (i := 2) sc_followed.nd rfl (.inl rfl) (oE_lst (dA_nil (μ := true)))))
  (dSs_cons (dS_if (PW.pt (dW_or (dT_not (dT_val (dE_isi (dE_var (μ := true) (pv 1)) (pe_bltn (v := .ty "tuple") (by rfl) m_tuple (by decide +kernel) rfl) (by rfl) m_isinstance (by decide +kernel)))) (dW_or1 (dT_not (dT_truth (dE_var (μ := true) (pv 1)))))))
    (dSs_one (dS_ret (ps_ret (dE_tup (dA_cons (dE_tup (dA_cons (dE_neg (dE_c (μ := false) pe_int)) (dA_cons (dE_c (μ := false) pe_str) (dA_nil (μ := false))))) (dA_cons (dE_own (pv 2)) (dA_nil (μ := false))))))))
    dSs_nil)
  (dSs_cons (dS_for (K := K) (p := (.tp (.cons (.nm 3) (.cons (.nm 4) .nil)))) (ps_for PassesOwn.never rfl (dI_enum (by rfl) m_enumerate (dA_cons (dE_var (μ := true) (pv 1)) (dA_nil (μ := true)))) (pg_tup (by rfl) (pgs_cons (pg_name (i := 3) sc_followed.nd rfl (.inl rfl)) (pgs_cons (pg_name (i := 4) sc_followed.nd rfl (.inl rfl)) pgs_nil)))
    (dSs_cons (dS_asg (K := K) (p := .nm 5) (ps_set (i := 5) sc_followed.nd rfl (.inl rfl) (dE_str (dE_cl C_row_word (hr.mono (by omega)) (by rfl) (dA_cons (dE_var (μ := false) (pv 0)) (dA_cons (dE_own (pv 2)) (dA_cons (dE_var (μ := false) (pv 4)) (dA_nil (μ := false)))))))))
  (dSs_cons (dS_if (dT_cmp o_isnot (dE_var (μ := true) (pv 5)) (dE_c (μ := true) pe_non) (nomark _))
    (dSs_one (dS_ret (ps_ret (dE_tup (dA_cons (dE_tup (dA_cons (dE_var (μ := false) (pv 3)) (dA_cons (dE_var (μ := false) (pv 5)) (dA_nil (μ := false))))) (dA_cons (dE_own (pv 2)) (dA_nil (μ := false))))))))
    dSs_nil)
  (dSs_one (dS_app (K := K) (ps_expr (pe_bm PySem.F.plainAttrs_list PySem.F.slot_list_append PySem.F.type_list_append mt_append (pv 2) (dA_cons (dE_str (dE_cl C_thing_of (hr.mono (by omega)) (by rfl) (dA_cons (dE_var (μ := false) (pv 0)) (dA_cons (dE_own (pv 2)) (dA_cons (dE_var (μ := false) (pv 4)) (dA_nil (μ := false))))))) dA_nil)))))))))
  (dSs_one (dS_ret (ps_ret (dE_tup (dA_cons (dE_c (μ := false) pe_non) (dA_cons (dE_own (pv 2)) (dA_nil (μ := false))))))))))), fun ds d l e => ?_⟩
  obtain ⟨⟨X, d⟩, ⟨hX, hq⟩, rfl, rfl⟩ := Sem.get e
  refine ⟨.rt (folD X d), ?_, rfl⟩
  have bad : ∀ d, sRet (eTup (aCons (eTup (aCons (e1 negD (eC (PyData.int 1))) (aCons (eC (PyData.str (Str.ofString "paper"))) aNil))) (aCons (eOwn 2) aNil))) (folR X d [] none none none) = some (.rt (.tuple [.tuple [.int (-1), S "paper"], .list []])) := fun d => rfl
  refine (ev_seq (ρ' := folR X d [] none none none) rfl).trans ?_
  cases d with
  | none | bool _ | int _ | str _ | list _ | dict _ => exact (ev_guard (b := true) (by exact (ev_oOr (b := true) (ev_not (b := false) (ev_oB (ev_e1 rfl (isi_tuple _))))).trans rfl) (d := .tuple [.tuple [.int (-1), S "paper"], .list []]) rfl).trans rfl
  | tuple ds =>
    cases ds with
    | nil => exact (ev_guard (b := true) (by exact (ev_oOr (b := false) (ev_not (b := true) (ev_oB (ev_e1 rfl (isi_tuple _))))).trans rfl) (d := .tuple [.tuple [.int (-1), S "paper"], .list []]) rfl).trans rfl
    | cons d0 ds =>
      refine (ev_guard (b := false) (by exact (ev_oOr (b := false) (ev_not (b := true) (ev_oB (ev_e1 rfl (isi_tuple _))))).trans rfl) (d := .tuple [.tuple [.int (-1), S "paper"], .list []]) rfl).trans ?_
      have hl := (gq.two hq).1
      rcases walk_for hX (D0 := .tuple (d0 :: ds)) (d0 :: ds) 0 [] none none none (fun g h => nomatch h) (by simpa using hl) with ⟨q, e1, e2⟩ | ⟨e1, x', y', z', e2⟩
      · refine (ev_seqR (ev_forS rfl e2)).trans ?_
        show _ = some (Out.rt (.tuple [fltD (walkP X 0 [] (d0 :: ds)).1, .list ((walkP X 0 [] (d0 :: ds)).2.map Tg.d)]))
        rw [e1]
      · refine (ev_seq (ev_forS rfl e2)).trans ?_
        show _ = some (Out.rt (.tuple [fltD (walkP X 0 [] (d0 :: ds)).1, .list ((walkP X 0 [] (d0 :: ds)).2.map Tg.d)]))
        rw [e1]
        rfl
end
end Dl
namespace Dl
open PySem PySem.Spec PyProof.Rows L2 Rt
/-- a paper's fault -/
def fltP (X : Wd) : D → D
  | .tuple (d :: ds) => fltD (walkP X 0 [] (d :: ds)).1
  | _ => .tuple [.int (-1), S "paper"]
def tldP (X : Wd) : D → List Tg
  | .tuple (d :: ds) => (walkP X 0 [] (d :: ds)).2
  | _ => []
theorem fol_two {X : Wd} {d : D} : folD X d = .tuple [fltP X d, .list ((tldP X d).map Tg.d)] := by
  cases d with
  | tuple ds => cases ds <;> rfl
  | none | bool _ | int _ | str _ | list _ | dict _ => rfl
end Dl
namespace Dl
open PySem PySem.Spec PyProof.Rows L2 Rt
def SFlt : Sem (Wd × D) where
  enc := fun (X, d) => [X.d, d]
  ok := fun (X, d) => X.ok ∧ gq d = true
  out := fun (X, d) => fltP X d
  fn := fun {x y} _ _ e => by
    obtain ⟨X, d⟩ := x
    obtain ⟨X', d'⟩ := y
    injection e with e1 e
    injection e with e2 e
    cases Wd.inj e1
    cases e2
    rfl
section
variable {P : Program} {w : World} {K : PySem.W.Frag} {mg : Str → Option Value} {base : Heap}
theorem ok_flt {f : Addr} {fd : FuncData} (F : Fun K "paperfault" "paperfault" s_paperfault f fd) (C_followed : Cl P w K mg base 5 "followed" ["world", "thing"] (spD 2 SFol.f)) : FnOk P w K mg base CX0 6 f fd ["world", "thing"] (spD 2 SFlt.f) := by
  refine okFn F sc_paperfault rfl fun cdv A outer s H E hr => ⟨_, (dSs_cons (dS_asg (K := K) (p := (.tp (.cons (.nm 2) (.cons (.nm 3) .nil)))) (ps_asg (dE_cl C_followed (hr.mono (by omega)) (by rfl) (dA_cons (dE_var (μ := true) (pv 0)) (dA_cons (dE_var (μ := true) (pv 1)) (dA_nil (μ := true))))) (pg_tup (by rfl) (pgs_cons (pg_name (i := 2) sc_paperfault.nd rfl (.inl rfl)) (pgs_cons (pg_name (i := 3) sc_paperfault.nd rfl (.inl rfl)) pgs_nil)))))
  (dSs_one (dS_ret (ps_ret (dE_var (μ := true) (pv 2)))))), fun ds d l e => ?_⟩
  obtain ⟨⟨X, d⟩, ok, rfl, rfl⟩ := Sem.get e
  refine ⟨.rt (fltP X d), ?_, rfl⟩
  have ef : SFol.f [X.d, d] = some (.tuple [fltP X d, .list ((tldP X d).map Tg.d)]) := (Sem.of (S := SFol) (x := (X, d)) ok).trans (congrArg some fol_two)
  exact (ev_asg (d := .tuple [fltP X d, .list ((tldP X d).map Tg.d)]) (ρ' := [some (.dat X.d), some (.dat d), some (.dat (fltP X d)), some (.dat (.list ((tldP X d).map Tg.d)))]) (ev_call rfl rfl ef) rfl).trans rfl
end
end Dl
namespace Dl
open PySem PySem.Spec PyProof.Rows L2 Rt
/-! ### the law's own judge -/
def SFst : Sem (Wd × Nat × Sr) where
  enc := fun (X, j, _) => [X.d, .int (j : Nat)]
  ok := fun (X, j, r) => X.ok ∧ X.ss[j]? = some r
  out := fun (X, _, r) => .int (r.s + (r.p - r.s) % X.n)
  fn := fun {x y} hx hy e => by
    obtain ⟨X, j, r⟩ := x
    obtain ⟨X', j', r'⟩ := y
    injection e with e1 e
    injection e with e2 e
    cases Wd.inj e1
    cases nat_i e2
    cases hx.2.symm.trans hy.2
    rfl
def sIs : List D → Option D
  | [d, .int lo, .int hi] => some (.bool (isFrom lo hi d))
  | _ => none
section
variable {P : Program} {w : World} {K : PySem.W.Frag} {mg : Str → Option Value} {base : Heap}
theorem ok_firstL {f : Addr} {fd : FuncData} (F : Fun K "_law_first" "_law_first" s_law_first f fd) : FnOk P w K mg base CX0 1 f fd ["_law_world_here", "_law_number"] (spD 2 SFst.f) := by
  refine okFn F sc_law_first rfl fun cdv A outer s H E hr => ⟨_, (dSs_cons (dS_asg (K := K) (p := (.tp (.cons (.nm 2) (.cons (.nm 3) (.cons (.nm 4) (.cons (.nm 5) (.cons (.nm 6) .nil))))))) (ps_asg (dE_ix (dE_ix (dE_var (μ := true) (pv 0)) (dE_c (μ := true) pe_int)) (dE_var (μ := true) (pv 1))) (pg_tup (by rfl) (pgs_cons (pg_name (i := 2) sc_law_first.nd rfl (.inl rfl)) (pgs_cons (pg_name (i := 3) sc_law_first.nd rfl (.inl rfl)) (pgs_cons (pg_name (i := 4) sc_law_first.nd rfl (.inl rfl)) (pgs_cons (pg_name (i := 5) sc_law_first.nd rfl (.inl rfl)) (pgs_cons (pg_name (i := 6) sc_law_first.nd rfl (.inl rfl)) pgs_nil))))))))
  (dSs_one (dS_ret (ps_ret (dE_op o_add (dE_var (μ := true) (pv 5)) (dE_op o_mod (dE_op o_sub (dE_var (μ := true) (pv 4)) (dE_var (μ := true) (pv 5))) (dE_ix (dE_var (μ := true) (pv 0)) (dE_c (μ := true) pe_int)))))))), fun ds d l e => ?_⟩
  obtain ⟨⟨X, j, r⟩, ⟨hX, g⟩, rfl, rfl⟩ := Sem.get e
  refine ⟨.rt (.int (r.s + (r.p - r.s) % X.n)), ?_, rfl⟩
  refine (ev_asg (d := r.d) (ρ' := [some (.dat X.d), some (.dat (.int j)), some (.dat (.str r.k)), some (.dat (.int r.a)), some (.dat (.int r.p)), some (.dat (.int r.s)), some (.dat (.int r.m))]) (ev_e2 (a := .tuple (X.ss.map Sr.d)) (b := .int j) rfl rfl (at_map g)) rfl).trans ?_
  exact ev_ret (ev_e2 (a := .int r.s) (b := .int ((r.p - r.s) % X.n)) rfl (ev_e2 (a := .int (r.p - r.s)) (b := .int X.n) rfl rfl (if_pos (by have := hX.n1; omega))) rfl)
theorem ok_fitsL {f : Addr} {fd : FuncData} (F : Fun K "_law_fits" "_law_fits" s_law_fits f fd) : FnOk P w K mg base CX0 1 f fd ["_law_part_here", "_law_thing", "_law_moment"] (spD 3 SFit.f) := by
  refine okFn F sc_law_fits rfl fun cdv A outer s H E hr => ⟨_, (dSs_cons (dS_asg (K := K) (p := .nm 3) (ps_set (i := 3) sc_law_fits.nd rfl (.inl rfl) (dE_op o_sub (dE_var (μ := true) (pv 2)) (dE_ix (dE_var (μ := true) (pv 1)) (dE_c (μ := true) pe_int)))))
  (dSs_one (dS_ret (ps_ret (dE_and (dE_cmp (o_eq hr.units) (dE_ix (dE_var (μ := true) (pv 1)) (dE_c (μ := true) pe_int)) (dE_ix (dE_var (μ := true) (pv 0)) (dE_c (μ := true) pe_int)) (nomark _)) (dE_and (dE_cmp o_le (dE_ix (dE_var (μ := true) (pv 1)) (dE_c (μ := true) pe_int)) (dE_var (μ := true) (pv 2)) (nomark _)) (dE_one (dE_chain o_le o_le (dE_ix (dE_var (μ := true) (pv 0)) (dE_c (μ := true) pe_int)) (dE_var (μ := true) (pv 3)) (dE_ix (dE_var (μ := true) (pv 0)) (dE_c (μ := true) pe_int)))))))))), fun ds d l e => ?_⟩
  obtain ⟨⟨p, g, t⟩, ⟨hp, hg⟩, rfl, rfl⟩ := Sem.get e
  refine ⟨.rt (.bool (fitB p g t)), ?_, rfl⟩
  refine (ev_asg (d := .int (t - g.o)) (ρ' := [some (.dat p.d), some (.dat g.d), some (.dat (.int t)), some (.dat (.int (t - g.o)))]) rfl rfl).trans ?_
  refine ev_ret (ev_and (b := (g.k == p.k)) (ev_e2 (a := .str g.k) (b := .str p.k) rfl rfl (eq_ok (okD_str hg) (okD_str hp))) (fun h => ?_) (fun h => by unfold fitB; rw [h]; rfl))
  refine ev_and (b := decide (g.b ≤ t)) rfl (fun h2 => ?_) (fun h2 => by unfold fitB; rw [h, h2]; rfl)
  unfold fitB
  rw [h, h2]
  have e1 : e2 ixD (eVar 0) (eC (.int 1)) [some (.dat p.d), some (.dat g.d), some (.dat (.int t)), some (.dat (.int (t - g.o)))] = some (.int p.l) := rfl
  have e3 : e2 ixD (eVar 0) (eC (.int 2)) [some (.dat p.d), some (.dat g.d), some (.dat (.int t)), some (.dat (.int (t - g.o)))] = some (.int p.g) := rfl
  have e4 : eVar 3 [some (.dat p.d), some (.dat g.d), some (.dat (.int t)), some (.dat (.int (t - g.o)))] = some (.int (t - g.o)) := rfl
  show eChain leD leD _ _ _ _ = _
  unfold eChain
  rw [e1, e3, e4]
  by_cases h3 : p.l ≤ t - g.o <;> simp [leD, bB, h3]
theorem ok_isL {f : Addr} {fd : FuncData} (F : Fun K "_law_is" "_law_is" s_law_is f fd) (m_isinstance : mg "isinstance" = none) (m_int : mg "int" = none) (m_bool : mg "bool" = none) : FnOk P w K mg base CX0 1 f fd ["_law_thing", "_law_low", "_law_high"] (spD 3 sFrom) := by
  refine okFn F sc_law_is rfl fun cdv A outer s H E hr => ⟨_, (dSs_one (dS_ret (ps_ret (dE_and (dE_isi (dE_var (μ := true) (pv 0)) (pe_bltn (v := .ty "int") (by rfl) m_int (by decide +kernel) rfl) (by rfl) m_isinstance (by decide +kernel)) (dE_and (dE_not (dE_isi (dE_var (μ := true) (pv 0)) (pe_bltn (v := .ty "bool") (by rfl) m_bool (by decide +kernel) rfl) (by rfl) m_isinstance (by decide +kernel))) (dE_one (dE_chain o_le o_le (dE_var (μ := true) (pv 1)) (dE_var (μ := true) (pv 0)) (dE_var (μ := true) (pv 2))))))))), fun ds d l e => ?_⟩
  match ds, e with
  | [x, .int lo, .int hi], e =>
    cases e
    refine ⟨.rt (.bool (isFrom lo hi x)), ?_, rfl⟩
    cases x <;> try rfl
    rename_i i
    by_cases h : lo ≤ i <;> simp [startR, sRet, eAnd, eNot, e1, eVar, isi_int, isi_bool, eChain, isFrom, leD, bB, h]
end
end Dl
namespace Dl
open PySem PySem.Spec PyProof.Rows L2 Rt
def SBrn : Sem (Wd × List Tg × Rw) where
  enc := fun (X, ts, r) => [X.d, r.d, .list (ts.map Tg.d)]
  ok := fun (X, ts, r) => X.ok ∧ r.ok X ts.length
  out := fun (_, ts, r) => (tgOf ts r).d
  fn := fun {x y} hx hy e => by
    obtain ⟨X, ts, r⟩ := x
    obtain ⟨X', ts', r'⟩ := y
    injection e with e1 e
    injection e with e3 e
    injection e with e2 e
    injection e2 with e2
    cases Wd.inj e1
    cases map_inj Tg.inj e2
    cases Rw.inj hx.2 hy.2 e3
    rfl
theorem sort_ends {os : List Int} (h : 0 < os.length) : ∃ a b, leastI os = some a ∧ mostI os = some b ∧ (sortA os)[0]? = some a ∧ (sortA os)[(sortA os).length - 1]? = some b := by
  have pm := sortA_perm os
  have pw := sortA_pw os
  have ln : (sortA os).length = os.length := pm.length_eq
  obtain ⟨a, ha⟩ : ∃ a, (sortA os)[0]? = some a := ⟨_, List.getElem?_eq_getElem (by omega)⟩
  obtain ⟨b, hb⟩ : ∃ b, (sortA os)[(sortA os).length - 1]? = some b := ⟨_, List.getElem?_eq_getElem (by omega)⟩
  have le : ∀ (i j : Nat) (x y : Int), i ≤ j → (sortA os)[i]? = some x → (sortA os)[j]? = some y → x ≤ y := by
    intro i j x y hij hx hy
    obtain ⟨hi, rfl⟩ := List.getElem?_eq_some_iff.mp hx
    obtain ⟨hj, rfl⟩ := List.getElem?_eq_some_iff.mp hy
    rcases Nat.lt_or_eq_of_le hij with h | h
    · exact List.pairwise_iff_getElem.mp pw i j hi hj h
    · subst h; exact Int.le_refl _
  have la : ∀ y ∈ os, a ≤ y := fun y hy => by
    obtain ⟨k, hk⟩ := List.getElem?_of_mem (pm.mem_iff.mpr hy)
    exact le 0 k a y (Nat.zero_le _) ha hk
  have lb : ∀ y ∈ os, y ≤ b := fun y hy => by
    obtain ⟨k, hk⟩ := List.getElem?_of_mem (pm.mem_iff.mpr hy)
    obtain ⟨hk', _⟩ := List.getElem?_eq_some_iff.mp hk
    exact le k _ y b (by omega) hk hb
  have ma : a ∈ os := pm.mem_iff.mp (List.mem_of_getElem? ha)
  have mb : b ∈ os := pm.mem_iff.mp (List.mem_of_getElem? hb)
  cases os with
  | nil => cases h
  | cons x xs => exact ⟨a, b, congrArg some (foldl_least xs x a ma la), congrArg some (foldl_most xs x b mb lb), ha, hb⟩
end Dl
namespace Dl
open PySem PySem.Spec PyProof.Rows L2 Rt
theorem atI_last {α : Type} {xs : List α} {b : α} (h : 0 < xs.length) (hb : xs[xs.length - 1]? = some b) : L2.atI xs (-1) = some b := by
  unfold L2.atI L2.ixN
  rw [if_neg (by decide), if_pos (by omega)]
  show xs[(_ : Nat)]? = _
  refine Eq.trans ?_ hb
  congr 1
  omega
section
variable {P : Program} {w : World} {K : PySem.W.Frag} {mg : Str → Option Value} {base : Heap}
theorem ok_born {f : Addr} {fd : FuncData} (F : Fun K "_law_born" "_law_born" s_law_born f fd) (m_sorted : mg "sorted" = none) (m_int : mg "int" = none) : FnOk P w K mg base CX0 1 f fd ["_law_world_here", "_law_row", "_law_found"] (spD 3 SBrn.f) := by
  refine okFn F sc_law_born rfl fun cdv A outer s H E hr => ⟨_, (dSs_cons (dS_if (dT_cmp (o_eq hr.units) (dE_ix (dE_var (μ := true) (pv 1)) (dE_c (μ := true) pe_int)) (dE_c (μ := true) pe_str) (nomark _))
    (dSs_one (dS_ret (ps_ret (dE_tup (dA_cons (dE_ix (dE_ix (dE_ix (dE_var (μ := true) (pv 0)) (dE_c (μ := true) pe_int)) (dE_ix (dE_var (μ := true) (pv 1)) (dE_c (μ := true) pe_int))) (dE_c (μ := true) pe_int)) (dA_cons (dE_op o_sub (dE_ix (dE_var (μ := true) (pv 1)) (dE_c (μ := true) pe_int)) (dE_ix (dE_ix (dE_ix (dE_var (μ := true) (pv 0)) (dE_c (μ := true) pe_int)) (dE_ix (dE_var (μ := true) (pv 1)) (dE_c (μ := true) pe_int))) (dE_c (μ := true) pe_int))) (dA_cons (dE_ix (dE_var (μ := true) (pv 1)) (dE_c (μ := true) pe_int)) (dA_nil (μ := true)))))))))
    dSs_nil)
  (dSs_cons (dS_asg (K := K) (p := .nm 3) (ps_set (i := 3) sc_law_born.nd rfl (.inl rfl) (dE_ix (dE_ix (dE_var (μ := true) (pv 0)) (dE_c (μ := true) pe_int)) (dE_ix (dE_var (μ := true) (pv 1)) (dE_c (μ := true) pe_int)))))
  (dSs_cons (dS_asg (K := K) (p := .nm 4) (ps_set (i := 4) sc_law_born.nd rfl (.inl rfl) (dE_callB c_sorA (by rfl) m_sorted (by decide +kernel) (dA_cons (dE_lc (K := K) (p := (.nm 5)) (pe_lc (own := [("_law_number", 5)]) (g := gP K (.nm 5)) rfl sc_law_born.nd (dI_seq (dE_ix (dE_var (μ := true) (pv 1)) (dE_c (μ := true) pe_int))) (blkOk_by (own := [("_law_number", 5)]) (N := ["_law_world_here", "_law_row", "_law_found", "_law_way_here", "_law_origins", "_law_number"]) (sc := defScope s_law_born) (by decide +kernel)) (fun _ _ _ _ _ => (pg_name (i := 5) sc_law_born.nd rfl (.inl rfl))) (fun _ _ _ _ _ => dTs_nil) (fun _ _ _ _ _ => (dE_ix (dE_ix (dE_var (μ := true) (pv 2)) (dE_var (μ := true) (pv 5))) (dE_c (μ := true) pe_int))))) (dA_nil (μ := true))))))
  (dSs_one (dS_ret (ps_ret (dE_tup (dA_cons (dE_ix (dE_var (μ := true) (pv 3)) (dE_c (μ := true) pe_int)) (dA_cons (dE_ix (dE_lst (dA_cons (dE_ix (dE_var (μ := true) (pv 4)) (dE_c (μ := true) pe_int)) (dA_cons (dE_ix (dE_var (μ := true) (pv 4)) (dE_neg (dE_c (μ := true) pe_int))) (dA_nil (μ := true))))) (dE_callTy c_int (by rfl) m_int (by decide +kernel) (dA_cons (dE_cmp (o_eq hr.units) (dE_ix (dE_var (μ := true) (pv 3)) (dE_c (μ := true) pe_int)) (dE_c (μ := true) pe_str) (nomark _)) (dA_nil (μ := true))))) (dA_cons (dE_op o_add (dE_ix (dE_var (μ := true) (pv 1)) (dE_c (μ := true) pe_int)) (dE_ix (dE_var (μ := true) (pv 3)) (dE_c (μ := true) pe_int))) (dA_nil (μ := true)))))))))))), fun ds d l e => ?_⟩
  obtain ⟨⟨X, ts, r⟩, ⟨hX, ho⟩, rfl, rfl⟩ := Sem.get e
  refine ⟨.rt (tgOf ts r).d, ?_, rfl⟩
  cases r with
  | br j s t =>
    have g : X.ss[j]? = some s := ho
    let ρ : Rho := [some (.dat X.d), some (.dat (.tuple [S "brought", .int j, .int t])), some (.dat (.list (ts.map Tg.d))), none, none, none]
    have es : e2 ixD (e2 ixD (eVar 0) (eC (.int 2))) (e2 ixD (eVar 1) (eC (.int 1))) ρ = some s.d := ev_e2 (a := .tuple (X.ss.map Sr.d)) (b := .int j) rfl rfl (at_map g)
    refine (ev_if (b := true) (ev_oB (ev_e2 (a := S "brought") (b := S "brought") rfl rfl ((eq_ok (by decide +kernel) (by decide +kernel)).trans (congrArg (fun b => some (PyData.bool b)) (by decide +kernel)))))).trans ?_
    refine ev_seqR (ev_ret ?_)
    have e1 := ev_cons (ev_e2 (g := ixD) (f2 := eC (.int 0)) (a := s.d) (b := .int 0) (d := .str s.k) es rfl rfl) (ev_cons (ev_e2 (g := subD) (f1 := e2 ixD (eVar 1) (eC (.int 2))) (f2 := e2 ixD (e2 ixD (e2 ixD (eVar 0) (eC (.int 2))) (e2 ixD (eVar 1) (eC (.int 1)))) (eC (.int 1))) (a := .int t) (b := .int s.a) (d := .int (t - s.a)) rfl (ev_e2 (a := s.d) (b := .int 1) es rfl rfl) rfl) (rfl : aCons (e2 ixD (eVar 1) (eC (.int 2))) aNil ρ = some [.int t]))
    show eTup _ ρ = _
    unfold eTup
    rw [e1]
    rfl
  | md j y t ns =>
    obtain ⟨g, nl, hn⟩ := ho
    have hy := hX.ws y (List.mem_of_getElem? g)
    have p1 := hy.p1
    have p3 := hy.p3
    have ol : (orgs ts ns).length = ns.length := List.length_map ..
    obtain ⟨a, b, ea, eb, sa, sb⟩ := sort_ends (os := orgs ts ns) (by omega)
    have sl : (sortA (orgs ts ns)).length = ns.length := by rw [(sortA_perm _).length_eq, ol]
    refine (ev_if (b := false) (ev_oB (ev_e2 (a := S "made") (b := S "brought") rfl rfl ((eq_ok (by decide +kernel) (by decide +kernel)).trans (congrArg (fun b => some (PyData.bool b)) (by decide +kernel)))))).trans ?_
    let R : Option LV → Option LV → Rho := fun x y => [some (.dat X.d), some (.dat (.tuple [S "made", .int j, .int t, .tuple (ns.map .int)])), some (.dat (.list (ts.map Tg.d))), x, y, none]
    show sSeq sNil _ (R none none) = _
    refine (ev_seq (ρ' := R none none) rfl).trans ?_
    refine (ev_asg (d := y.d) (ρ' := R (some (.dat y.d)) none) (ev_e2 (a := .tuple (X.ws.map Wy.d)) (b := .int j) rfl rfl (at_map g)) rfl).trans ?_
    let Z : D := .list ((sortA (orgs ts ns)).map .int)
    have eso : sorAD [.list ((orgs ts ns).map .int)] = some Z := by
      show (intsD ((orgs ts ns).map .int)).bind _ = _
      rw [intsD.map]
      exact if_pos (by omega)
    refine (ev_asg (d := Z) (ρ' := R (some (.dat y.d)) (some (.dat Z))) ?_ rfl).trans ?_
    · have el : eLc true [5] (itSeq (e2 ixD (eVar 1) (eC (.int 3)))) (.nm 5) oYes (e2 ixD (e2 ixD (eVar 2) (eVar 5)) (eC (.int 1))) (R (some (.dat y.d)) none) = some (.list ((orgs ts ns).map .int)) := by
        refine ev_lcE (items := ns.map .int) rfl ?_
        show _ = some ((ns.map _).map _)
        rw [List.map_map]
        refine ev_lcG (e := PyData.int) (t := PyData.int ∘ fun i => ((ts[i.toNat]?).map Tg.o).getD 0) ns ?_
        intro i hi
        refine ⟨_, rfl, ?_⟩
        have := hn i hi
        obtain ⟨k, rfl⟩ : ∃ k : Nat, i = k := ⟨i.toNat, by omega⟩
        obtain ⟨q, hq⟩ : ∃ q, ts[k]? = some q := ⟨_, List.getElem?_eq_getElem (by omega)⟩
        show _ = some (PyData.int (((ts[k]?).map Tg.o).getD 0))
        rw [hq]
        exact ev_e2 (a := q.d) (b := .int 1) (ev_e2 (a := .list (ts.map Tg.d)) (b := .int k) rfl rfl (at_map hq)) rfl rfl
      have := ev_cons el (rfl : aNil (R (some (.dat y.d)) none) = some [])
      show eCall sorAD _ _ = _
      unfold eCall
      exact (congrArg (fun o : Option (List D) => o.bind sorAD) this).trans eso
    let ρ : Rho := R (some (.dat y.d)) (some (.dat Z))
    have z0 : e2 ixD (eVar 4) (eC (.int 0)) ρ = some (.int a) := ev_e2 (a := Z) (b := .int 0) rfl rfl (at_map (j := 0) sa)
    have z1 : e2 ixD (eVar 4) (e1 negD (eC (.int 1))) ρ = some (.int b) := ev_e2 (a := Z) (b := .int (-1)) rfl rfl (atI_last (by rw [List.length_map]; omega) (by rw [List.length_map, List.getElem?_map, sb]; rfl))
    have zl : eLst (aCons (e2 ixD (eVar 4) (eC (.int 0))) (aCons (e2 ixD (eVar 4) (e1 negD (eC (.int 1)))) aNil)) ρ = some (.list [.int a, .int b]) := by
      unfold eLst
      rw [ev_cons z0 (ev_cons z1 rfl)]
      rfl
    refine ev_ret ?_
    have key : ∀ (c : Bool), eqD (.str y.kp) (.str (Str.ofString "youngest")) = some (.bool c) → (if c = true then b else a) = (orgO y (orgs ts ns)).getD 0 → eTup (aCons (e2 ixD (eVar 3) (eC (.int 0))) (aCons (e2 ixD (eLst (aCons (e2 ixD (eVar 4) (eC (.int 0))) (aCons (e2 ixD (eVar 4) (e1 negD (eC (.int 1)))) aNil))) (eCall intD (aCons (e2 eqD (e2 ixD (eVar 3) (eC (.int 2))) (eC (.str (Str.ofString "youngest")))) aNil))) (aCons (e2 addD (e2 ixD (eVar 1) (eC (.int 2))) (e2 ixD (eVar 3) (eC (.int 4)))) aNil))) ρ = some (tgOf ts (.md j y t ns)).d := by
      intro c hc ho
      have ei : eCall intD (aCons (e2 eqD (e2 ixD (eVar 3) (eC (.int 2))) (eC (.str (Str.ofString "youngest")))) aNil) ρ = some (.int (if c = true then 1 else 0)) := by
        unfold eCall
        rw [ev_cons (d := .bool c) (ds := []) (ev_e2 (a := .str y.kp) (b := .str (Str.ofString "youngest")) rfl rfl hc) rfl]
        cases c <;> rfl
      have ez : e2 ixD (eLst (aCons (e2 ixD (eVar 4) (eC (.int 0))) (aCons (e2 ixD (eVar 4) (e1 negD (eC (.int 1)))) aNil))) (eCall intD (aCons (e2 eqD (e2 ixD (eVar 3) (eC (.int 2))) (eC (.str (Str.ofString "youngest")))) aNil)) ρ = some (.int (if c = true then b else a)) := ev_e2 zl ei (by cases c <;> rfl)
      unfold eTup
      rw [ev_cons (d := .str y.k) (ds := [.int (if c = true then b else a), .int (t + y.w)]) rfl (ev_cons ez rfl), ho]
      rfl
    rcases hy.kp with hk | hk
    · exact key false (by rw [hk, eq_ok (by decide +kernel) (by decide +kernel)]; exact congrArg (fun b => some (PyData.bool b)) (by decide +kernel)) (by unfold orgO; rw [if_pos hk, ea]; rfl)
    · exact key true (by rw [hk, eq_ok (by decide +kernel) (by decide +kernel)]; exact congrArg (fun b => some (PyData.bool b)) (by decide +kernel)) (by show b = _; unfold orgO; rw [hk, if_neg (by decide +kernel), eb]; rfl)
end
end Dl
namespace Dl
open PySem PySem.Spec PyProof.Rows L2 Rt
def SIsR : Sem (Wd × D × Nat) where
  enc := fun (X, d, n) => [X.d, d, .int (n : Nat)]
  ok := fun (X, d, _) => X.ok ∧ gq d = true
  out := fun (X, d, n) => .bool (rwOf X n d).isSome
  fn := fun {x y} _ _ e => by
    obtain ⟨X, d, n⟩ := x
    obtain ⟨X', d', n'⟩ := y
    injection e with e1 e
    injection e with e2 e
    injection e with e3 e
    cases Wd.inj e1
    cases e2
    cases nat_i e3
    rfl
theorem rw_not {X : Wd} {n : Nat} {d : D} (h1 : brR X d = none) (h2 : mdR X n d = none) : rwOf X n d = none := by
  unfold rwOf
  rw [h1]
  show (match mdR X n d with | some (j, y, t, ns) => some (Rw.md j y t ns) | none => none) = none
  rw [h2]
theorem brR_hd {X : Wd} {a : D} {r : List D} (h : a ≠ S "brought") : brR X (.tuple (a :: r)) = none := by
  unfold brR
  split
  · rename_i z i t heq
    injection heq with heq
    injection heq with e1 e2
    exact if_neg fun c => h (by rw [e1, c.1]; rfl)
  · rfl
theorem mdR_hd {X : Wd} {n : Int} {a : D} {r : List D} (h : a ≠ S "made") : mdR X n (.tuple (a :: r)) = none := by
  unfold mdR
  split
  · rename_i z i t ds heq
    injection heq with heq
    injection heq with e1 e2
    exact if_neg fun c => h (by rw [e1, c.1]; rfl)
  · rfl
theorem brR_len {X : Wd} {ds : List D} (h : ds.length ≠ 3) : brR X (.tuple ds) = none := by
  unfold brR
  split
  · rename_i z i t heq
    injection heq with heq
    exact absurd (by rw [heq]; rfl) h
  · rfl
theorem mdR_len {X : Wd} {n : Int} {ds : List D} (h : ds.length ≠ 4) : mdR X n (.tuple ds) = none := by
  unfold mdR
  split
  · rename_i z i t es heq
    injection heq with heq
    exact absurd (by rw [heq]; rfl) h
  · rfl
end Dl
namespace Dl
open PySem PySem.Spec PyProof.Rows L2 Rt
/-! ### comprehensions of two fors -/
def lc2Go (vs1 : List Nat) (p p1 : Pat) (it1 : Rho → Option (List D)) (f : EF) (ρ : Rho) : List D → Option (List D)
  | [] => some []
  | x :: xs => (bindP p x ρ).bind fun ρ1 => (it1 ρ1).bind fun its => (lcGo p1 oYes f (wipeR ρ1 vs1) its).bind fun r => (lc2Go vs1 p p1 it1 f ρ xs).map fun t => r ++ t
def eLc2 (μ : Bool) (vs vs1 : List Nat) (it : Rho → Option (List D)) (p p1 : Pat) (it1 : Rho → Option (List D)) (f : EF) : EF := fun ρ => (it ρ).bind fun items => (lc2Go vs1 p p1 it1 f (wipeR (shutR μ ρ) vs) items).bind fun r => if r.length ≤ 100000 then some (.list r) else none
theorem Rs.wipeN {M0 : Addr → Prop} {H0 H : Hp} {σ : L2.St} {ρ : Rho} (R : Rs M0 H0 H σ ρ) : ∀ vs : List Nat, Rs M0 H0 H (wipe σ vs) (wipeR ρ vs)
  | [] => R
  | v :: vs => (R.wipeN vs).clear v none
theorem Rs.reb {M0 : Addr → Prop} {H H' : Hp} {σ : L2.St} {ρ : Rho} (R : Rs M0 H H σ ρ) (k : KpM M0 H H') (dom : Dom M0 H') : Rs M0 H' H' σ ρ := by
  have no : ∀ (i : Nat) (ds : List D), ρ[i]? = some (some (.own ds)) → False := fun i ds e => by
    obtain ⟨p, vs, _, b, c, _⟩ := R.own i ds e
    rw [b] at c
    cases c
  exact ⟨Same.refl _, dom, R.len, fun i d e => by
    obtain ⟨v, a, b⟩ := R.dat i d e
    exact ⟨v, a, b.mono fun p o n e => k p o (fun m => n (.inl m)) e⟩, fun i ds e => (no i ds e).elim, R.raw, fun i j a b p e => (no i a e).elim⟩
theorem Rs.noM {M0 : Addr → Prop} {H : Hp} {σ : L2.St} {ρ : Rho} (R : Rs M0 H H σ ρ) (a : Addr) (m : Mu true M0 σ ρ a) : M0 a := by
  rcases m with m | ⟨_, i, ds, e, _⟩
  · exact m
  · obtain ⟨p, vs, _, b, c, _⟩ := R.own i ds e
    rw [b] at c
    cases c
theorem lc2Core {K : PySem.W.Frag} {μ μ1 μi pr pr1 : Bool} {M0 : Addr → Prop} {H0 H1 : Hp} {σ : L2.St} {ρ : Rho} {J : It} {items res : List D} {p p1 : Pat} {it1 : Rho → Option (List D)} {f : EF} {vs vs1 : List Nat} {D : Addr} {Qd : Hp → Prop}
    (R : Rs M0 H0 H1 σ ρ) (dw : ∀ M', (∀ a, M' a → Mu μ M0 σ ρ a ∨ H1 a = none) → DW pr M' H1 J items) (hD : H1 D = none) (hp : p.fits pr = true) (hs : ∀ j, j ∈ slP p → j ∈ vs) (hp1 : p1.fits pr1 = true) (hs1 : ∀ j, j ∈ slP p1 → j ∈ vs1) (e : lc2Go vs1 p p1 it1 f (wipeR (shutR μ ρ) vs) items = some res) (len : res.length ≤ 100000)
    (q : ∀ H acc, Same H1 H → H D = some (.lst acc) → acc.length ≤ sizeLine → RpAll (Mi μ M0 σ ρ D) H acc res → Qd H) :
    ∃ W : Nat → Nat → Hp → Prop, (∃ m, W 0 m (upd H1 D (.lst []))) ∧ ∀ i m H, W i m H →
      (J.stop i H ∧ Qd H) ∨ (J.go i H ∧ ∃ Nx : Hp → Prop, (∀ H', Nx H' → ∃ m', m' < m ∧ W (i + 1) m' H') ∧ ∀ x H', J.yld i H x H' → gP K p x (wipe σ vs) H' fun σ2 H2 => wipe σ2 vs = wipe σ vs ∧ tT oYes σ2 H2 fun b H3 =>
        if b = true then iD μ1 pr1 it1 σ2 H3 fun J1 H4 => ∃ W1 : Nat → Nat → Hp → Prop, (∃ m, W1 0 m H4) ∧ ∀ j k H, W1 j k H →
          (J1.stop j H ∧ Nx H) ∨ (J1.go j H ∧ ∃ Nx1 : Hp → Prop, (∀ H', Nx1 H' → ∃ k', k' < k ∧ W1 (j + 1) k' H') ∧ ∀ x H', J1.yld j H x H' → gP K p1 x (wipe σ2 vs1) H' fun σ3 H5 => wipe σ3 vs1 = wipe σ2 vs1 ∧ tT oYes σ3 H5 fun b H6 =>
            if b = true then tD μi f σ3 H6 fun y H7 => ∃ acc, H7 D = some (.lst acc) ∧ acc.length < sizeLine ∧ Nx1 (upd H7 D (.lst (acc ++ [y]))) else Nx1 H6)
        else Nx H3) := by
  have dw := dw (Mi μ M0 σ ρ D) fun a m => m.elim .inl fun z => .inr (by rw [z]; exact hD)
  obtain ⟨G, Y, W, hG, hY⟩ := dw.ex
  have szl : 100000 ≤ sizeLine := by decide
  let Pv : Nat → Hp → Prop := fun i H => Same H1 H ∧ ∃ acc done rest, H D = some (.lst acc) ∧ RpAll (Mi μ M0 σ ρ D) H acc done ∧ lc2Go vs1 p p1 it1 f (wipeR (shutR μ ρ) vs) (items.drop i) = some rest ∧ done ++ rest = res
  refine ⟨fun i m H => m = items.length - i ∧ i ≤ items.length ∧ Pv i H, ⟨items.length, by simp, Nat.zero_le _, smN hD, [], [], res, upd_same, .nil, e, rfl⟩, ?_⟩
  rintro i m H ⟨rfl, hi, sm, acc, done, rest, eD, ra, er, et⟩
  by_cases hlt : i < items.length
  · refine .inr ⟨W.goes i H hlt (hG H (.of sm)), Pv (i + 1), fun H' p' => ⟨items.length - (i + 1), by omega, rfl, hlt, p'⟩, fun x H' y => ?_⟩
    obtain ⟨d, ed, s2, rv⟩ := hY i x H H' (.of sm) (W.yields i H x H' hlt (hG H (.of sm)) y)
    rw [drop_at ed] at er
    unfold lc2Go at er
    obtain ⟨ρ1, e1, er⟩ := some_bind er
    obtain ⟨its, ei, er⟩ := some_bind er
    obtain ⟨r1, er1, er⟩ := some_bind er
    obtain ⟨r2, er2, er⟩ := some_map er
    have er : r1 ++ r2 = rest := er
    have Rin := R.inner (μ := μ) hD (sm.trans s2) (s2 _ _ eD) vs
    refine bindP.ok (pr := pr) Rin ?_ hp e1 fun σ2 R2 B2 => ⟨wipe_eq B2.oth B2.len hs, _, _, ρ1, true, R2, rfl, fun H3 s3 => ?_⟩
    · rcases rv with rv | ⟨zp, a, xs, ds, z1, z2, z3, z4⟩
      · exact .inl (rv.reM fun a m => .inl (Mi.noOwn a m))
      · exact .inr ⟨zp, a, xs, ds, z1, z2, z3, z4.reM fun a m => .inl (Mi.noOwn a m)⟩
    refine ⟨_, _, ρ1, its, R2.mono s3, ei, fun J1 H4 s4 dw1 => ?_⟩
    have dw1 := dw1 (Mi μ M0 σ ρ D) fun a m => .inl (.inl m)
    obtain ⟨G1, Y1, W1, hG1, hY1⟩ := dw1.ex
    have s24 : Same H H4 := (s2.trans s3).trans s4
    have s14 : Same H1 H4 := sm.trans s24
    let P1 : Nat → Hp → Prop := fun j H5 => KpM (Mi μ M0 σ ρ D) H4 H5 ∧ Same H1 H5 ∧ ∃ acc' done' rest', H5 D = some (.lst acc') ∧ RpAll (Mi μ M0 σ ρ D) H5 acc' (done ++ done') ∧ lcGo p1 oYes f (wipeR ρ1 vs1) (its.drop j) = some rest' ∧ done' ++ rest' = r1
    refine ⟨fun j k H5 => k = its.length - j ∧ j ≤ its.length ∧ P1 j H5, ⟨its.length, by simp, Nat.zero_le _, .refl, s14, acc, [], r1, s24 _ _ eD, by rw [List.append_nil]; exact ra.mono (.of s24), er1, rfl⟩, ?_⟩
    rintro j k H5 ⟨rfl, hj, k5, s5, acc', done', rest', eD5, ra5, er5, et5⟩
    by_cases hlj : j < its.length
    · refine .inr ⟨W1.goes j H5 hlj (hG1 H5 k5), P1 (j + 1), fun H' p' => ⟨its.length - (j + 1), by omega, rfl, hlj, p'⟩, fun x1 H6 y1 => ?_⟩
      obtain ⟨d1, ed1, s6, rv1⟩ := hY1 j x1 H5 H6 k5 (W1.yields j H5 x1 H6 hlj (hG1 H5 k5) y1)
      rw [drop_at ed1] at er5
      unfold lcGo at er5
      obtain ⟨ρ2, e2, er5⟩ := some_bind er5
      obtain ⟨bb, eb, er5⟩ := some_bind er5
      cases eb
      obtain ⟨dv, edv, er5⟩ := some_bind (show (f ρ2).bind _ = some rest' from er5)
      obtain ⟨r3, er3, er5⟩ := some_map er5
      have er5 : dv :: r3 = rest' := er5
      have dom6 : Dom (Mi μ M0 σ ρ D) H6 := fun a m => by
        rcases m with m | rfl
        · exact ((R.mono (s5.trans s6)).domu μ) a m
        · rw [s6 _ _ eD5]; intro z; cases z
      have k36 : KpM (Mi μ M0 σ ρ D) H' H6 := fun a o n e => s6 a o (k5 a o n (s4 a o (s3 a o e)))
      have Rw := (R2.reb k36 dom6).wipeN vs1
      refine bindP.ok (pr := pr1) Rw ?_ hp1 e2 fun σ3 R3 B3 => ⟨wipe_eq B3.oth B3.len hs1, _, _, ρ2, true, R3, rfl, fun H7 s7 => ?_⟩
      · rcases rv1 with rv1 | ⟨zp, a, xs, ds, z1, z2, z3, z4⟩
        · exact .inl (rv1.reM fun a m => .inl (Rw.noM a m))
        · exact .inr ⟨zp, a, xs, ds, z1, z2, z3, z4.reM fun a m => .inl (Rw.noM a m)⟩
      refine ⟨_, _, ρ2, dv, R3.mono s7, edv, fun y H8 s8 r8 => ?_⟩
      have s58 : Same H5 H8 := (s6.trans s7).trans s8
      have eD8 := s58 _ _ eD5
      have kp : KpM (Mi μ M0 σ ρ D) H8 (upd H8 D (.lst (acc' ++ [y]))) := fun q o n e => by
        rw [upd_ne (fun z => n (.inr z))]
        exact e
      have r8 : Rp (Mi μ M0 σ ρ D) H8 y dv := r8.reM fun a m => .inl (.inl m)
      have hl : acc'.length < sizeLine := by
        rw [ra5.len]
        have : (done ++ done').length < res.length := by
          rw [← et, ← er, ← et5, ← er5]
          simp only [List.length_append, List.length_cons]
          omega
        omega
      refine ⟨acc', eD8, hl, fun a o n e => kp a o n (s58 a o (k5 a o n e)), fun a o e => ?_, acc' ++ [y], done' ++ [dv], r3, upd_same, ?_, er3, by rw [← et5, ← er5, List.append_assoc]; rfl⟩
      · rw [upd_ne (ne_of_none e hD)]
        exact s58 a o (s5 a o e)
      · rw [← List.append_assoc]
        exact ((ra5.mono (.of s58)).mono kp).app (.cons (r8.mono kp) .nil)
    · have ej : j = its.length := by omega
      subst ej
      rw [List.drop_length] at er5
      cases er5
      rw [List.append_nil] at et5
      subst et5
      exact .inl ⟨W1.stops H5 (hG1 H5 k5), s5, acc', done ++ done', r2, eD5, ra5, er2, by rw [List.append_assoc, er]; exact et⟩
  · have ei : i = items.length := by omega
    subst ei
    rw [List.drop_length] at er
    cases er
    rw [List.append_nil] at et
    subst et
    exact .inl ⟨W.stops H (hG H (.of sm)), q H acc sm eD (by rw [ra.len]; omega) ra⟩
section
variable {X : Cx} {K : PySem.W.Frag}
theorem dE_lc2 {e : Expr} {it it1 : Rho → Option (List D)} {p p1 : Pat} {f : EF} {vs vs1 : List Nat} {μ μ1 μi pr pr1 : Bool} (h : PE X e (tLc2 (iD μ pr it) (gP K p) (tT oYes) (iD μ1 pr1 it1) (gP K p1) (tT oYes) (tD μi f) vs vs1)) (hp : p.fits pr = true := by rfl) (hs : ∀ j, j ∈ slP p → j ∈ vs := by decide) (hp1 : p1.fits pr1 = true := by rfl) (hs1 : ∀ j, j ∈ slP p1 → j ∈ vs1 := by decide) : PE X e (tD μ (eLc2 μ vs vs1 it p p1 it1 f)) := h.wk fun σ H Q q => by
  obtain ⟨M0, H0, ρ, d, R, e, q⟩ := q
  obtain ⟨items, ei, e⟩ := some_bind e
  obtain ⟨res, er, e⟩ := some_bind e
  obtain ⟨l, rfl⟩ := iteS e
  exact ⟨M0, H0, ρ, items, R, ei, fun J H1 s1 dw D hD => lc2Core (R.mono s1) dw hD hp hs hp1 hs1 er l fun H2 acc s2 eD la ra => q _ _ (s1.trans s2) (.lst eD (((R.mono s1).domu μ).not hD) la (ra.reM fun a m => .inl (.inl m)))⟩
/-! ### a list of one's own, put otherwise at a place -/
def swPut (i : Nat) (f fi : WP D) : WP Out := ⟨fun ρ b Q => f.w ρ b fun d b1 => ∃ ds, ρ[i]? = some (some (.own ds)) ∧ fi.w ρ b1 fun x b2 => ∃ k j, x = .int k ∧ ixN ds.length k = some j ∧ Q (.nx (ρ.set i (some (.own (ds.set j d))))) b2, fun h z => f.m (fun d b1 ⟨ds, e, y⟩ => ⟨ds, e, fi.m (fun x b2 ⟨k, j, e1, e2, y⟩ => ⟨k, j, e1, e2, h _ _ y⟩) y⟩) z⟩
theorem nS_put {st : Stmt} {i : Nat} {f fi : WP D} (h : PS X st (tAsg (tn f) (gSub (tVar i) (tn fi) rSetLL))) : PS X st (tSn (swPut i f fi)) := h.wk fun Dn σ H q => by
  obtain ⟨g, M0, H0, ρ, b, R, q⟩ := q
  refine ⟨g, M0, H0, ρ, b, R, f.m (fun d b1 ⟨ds, z, q⟩ v H1 k1 i1 r1 => ?_) q⟩
  have R1 := R.up k1 i1
  obtain ⟨p, vs, a, c, h0, l, r⟩ := R1.own i ds z
  refine ⟨.ref p, a, g, M0, H0, ρ, b1, R1, fi.m (fun x b2 ⟨k, j, ex, ij, q⟩ y H2 k2 i2 r2 => ?_) q⟩
  subst ex
  cases r2
  have kk : KpM (Mu true M0 σ ρ) H1 H2 := fun p o n e => k2 p o (fun z => n (.inl (R.pl p z))) e
  have c2 := k2 _ _ (fun o => R.dom0 p (R.pl p o) h0) c
  refine ⟨p, vs, k, j, rfl, rfl, c2, by rw [r.len]; exact ij, fun H3 e3 => ?_⟩
  subst e3
  obtain ⟨R3, S3⟩ := (R1.up k2 i2).ownSet z a c2 (vs' := vs.set j v) (by rw [List.length_set]; exact l) (RpAll.set (r1.mono kk) j (r.mono kk))
  exact q _ _ R3 (((R.stp k1).trans (R1.stp k2)).trans S3)
/-- [x] * n, a new list -/
def mulL : D → D → Option D
  | .list ds, .int k => if 0 ≤ k ∧ k ≤ 1000 ∧ ds.length ≤ 1000 then some (.list (List.replicate k.toNat ds).flatten) else none
  | _, _ => none
theorem oE_rep {a b : Expr} {pos : Pos} {f1 f2 : EF} (ha : PE X a (tD true f1)) (hb : PE X b (tD true f2)) : PE X (.BinOp a .Mult b pos) (tN (e2 mulL f1 f2)) := (pe_op op_rep ha hb).wk fun σ H Q q => by
  obtain ⟨M0, H0, ρ, ds, R, e, q⟩ := q
  obtain ⟨d1, e1, ea⟩ := some_bind e
  obtain ⟨d2, e2, eb⟩ := some_bind ea
  clear e ea
  refine ⟨M0, H0, ρ, d1, R, e1, fun v1 H1 s1 r1 => ⟨M0, H0, ρ, d2, R.mono s1, e2, fun v2 H2 s2 r2 => ?_⟩⟩
  cases r1 <;> (try (cases r2 <;> cases eb; done))
  rename_i t n l r
  cases r2 <;> (try (cases eb; done))
  rename_i k
  obtain ⟨l2, e3⟩ := iteS eb
  cases e3
  have hl := r.len
  have hm : (List.length ‹List V›) * k.toNat ≤ sizeLine := by
    rw [hl]
    exact Nat.le_trans (Nat.mul_le_mul l2.2.2 (show k.toNat ≤ 1000 by omega)) (by decide)
  refine ⟨_, _, _, rfl, rfl, s2 _ _ t, by omega, by omega, hm, fun p hp => q p _ _ ?_ ((s1.trans s2).trans (smN hp)) upd_same (by rw [rep_len, Nat.mul_comm]; exact hm) ?_⟩
  · cases z : H p with
    | none => rfl
    | some o => rw [(s1.trans s2) _ _ z] at hp; cases hp
  · have k : ∀ a, Mi true M0 σ ρ p a → Mu true M0 σ ρ a ∨ H2 a = none := fun a m => by
      rcases m with m | rfl
      · exact .inl m
      · exact .inr hp
    exact (((r.mono (.of s2)).reM k).mono (.of (smN hp))).rep _
/-! ### tuples * 0, () * n -/
theorem tuple_mulE (l : Addr) (n : Nat) (dd : Option Addr) (sl : Array (Option Value)) (x : Int) (u : Tok) (c0 : (decide (x < -(2 ^ 63)) || decide (x ≥ 2 ^ 63)) = false) :
    Meets (Builtin.«tuple.__mul__» ⟨[.ref l, .int x u], []⟩) (fun _ R s => s.heap.get? l = some { cls := .type "tuple", dict := dd, data := .seq #[] n, slots := sl } ∧
      R (.ok (.ret (Value.ref l))) s) :=
  .of_wp fun prog w A R s h => by
    obtain ⟨hp, g, d, tk, os⟩ := s
    obtain ⟨hl, h⟩ := h
    have f1 := AutoSeq1.idx_int
    have c1 : ((#[] : Array Value).isEmpty || x == 1) = true := rfl
    wp_walk using wpAny_loadPart' hl
    repeat (first
      | (refine wpAny_ite_false (decide_eq_false (by rw [c0]; exact Bool.false_ne_true)) ?_; wp_walk using wpAny_loadPart' hl)
      | (refine wpAny_ite_true (decide_eq_true c1) ?_; wp_walk using wpAny_loadPart' hl))
    exact ⟨_, rfl, h⟩
theorem tuple_mulZ (l : Addr) (items : Array Value) (n : Nat) (dd : Option Addr) (sl : Array (Option Value)) (u : Tok) (c1 : (items.isEmpty || (0 : Int) == 1) = false) :
    Meets (Builtin.«tuple.__mul__» ⟨[.ref l, .int 0 u], []⟩) (fun _ R s => s.heap.get? l = some { cls := .type "tuple", dict := dd, data := .seq items n, slots := sl } ∧
      R (.ok (.ret (Value.ref s.heap.objs.size))) { s with heap := s.heap.push { cls := Value.type "tuple", data := Data.seq #[] }, toks := s.toks }) :=
  .of_wp fun prog w A R s h => by
    obtain ⟨hp, g, d, tk, os⟩ := s
    obtain ⟨hl, h⟩ := h
    have f1 := AutoSeq1.idx_int
    have c0 : (decide ((0 : Int) < -(2 ^ 63)) || decide ((0 : Int) ≥ 2 ^ 63)) = false := by decide
    have c2 : (decide ((0 : Int) ≤ 0) || items.isEmpty) = true := rfl
    wp_walk using wpAny_loadPart' hl
    repeat (first
      | (refine wpAny_ite_false (decide_eq_false (by rw [c0]; exact Bool.false_ne_true)) ?_; wp_walk using wpAny_loadPart' hl)
      | (refine wpAny_ite_false (decide_eq_false (by rw [c1]; exact Bool.false_ne_true)) ?_; wp_walk using wpAny_loadPart' hl)
      | (refine wpAny_ite_true (decide_eq_true c2) ?_; wp_walk using wpAny_loadPart' hl))
    exact ⟨_, rfl, h⟩
end
end Dl
namespace Dl
open PySem PySem.Spec PyProof.Rows L2 Rt
section
variable {X : Cx} {K : PySem.W.Frag}
def mulY : D → D → Option D
  | .tuple ds, .int k => if ds.isEmpty = true ∧ 0 ≤ k ∧ k ≤ 1000 then some (.tuple []) else if k = 0 then some (.tuple []) else mulX (.tuple ds) (.int k)
  | a, b => mulX a b
theorem o_mulY : OpR X (binaryOp .Mult) (rD mulY) := by
  intro pn s σ H x y v u Q I rx ry h
  obtain ⟨M, a, b, d, dm, ra, rb, e, q⟩ := h
  by_cases hb : ∃ ds k, a = .tuple ds ∧ b = .int k
  · obtain ⟨ds, k, rfl, rfl⟩ := hb
    have e : (if ds.isEmpty = true ∧ 0 ≤ k ∧ k ≤ 1000 then some (PyData.tuple []) else if k = 0 then some (PyData.tuple []) else mulX (.tuple ds) (.int k)) = some d := e
    by_cases h1 : ds.isEmpty = true ∧ 0 ≤ k ∧ k ≤ 1000
    · rw [if_pos h1] at e
      cases e
      have : ds = [] := List.isEmpty_iff.mp h1.1
      subst this
      cases ra with
      | tup t n l r =>
        cases r
        cases rb
        cases rx
        obtain ⟨tk, rfl⟩ := ry
        obtain ⟨its, r, ⟨⟨cls, dd, data, sl⟩, ho, hc, m, hd⟩, hs⟩ := I.tuple (t.sq (K := X.K))
        simp only at hc hd
        subst hc hd
        cases r
        refine wpAny_binaryOp_repeat_ref (T := "tuple") (U := "int") (by decide) ⟨_, ho, rfl⟩ (fun s' => typeIs_int s' k tk) noFill_tuple_mul F.fills_int_mul F.slot_int_rmul repeat_tuple F.slot_int_index.lookup
          (call_meets F.slot_int_rmul (typeIs_int s k tk) F.entry_int_rmul (F.args_int_rmul_2 _ _) (int_rmul_tuple k tk _ _ m dd sl)
            ⟨ho, rfl, ⟨_, ho, rfl⟩, call_meets F.slot_tuple_mul ⟨_, ho, rfl⟩ F.entry_tuple_mul (F.args_tuple_mul_2 _ _) (tuple_mulE _ m dd sl k tk (by simp; omega)) ⟨ho, ?_⟩⟩)
        exact ⟨.ref _, H, I, rfl, q _ _ (Same.refl _) (.tup t n l .nil)⟩
    · rw [if_neg h1] at e
      by_cases h2 : k = 0
      · subst h2
        rw [if_pos rfl] at e
        cases e
        have hne : ds ≠ [] := fun z => h1 ⟨by rw [z]; rfl, by decide, by decide⟩
        cases ra with
        | tup t n l r =>
          cases rb
          cases rx
          obtain ⟨tk, rfl⟩ := ry
          obtain ⟨its, r2, ⟨⟨cls, dd, data, sl⟩, ho, hc, m, hd⟩, hs⟩ := I.tuple (t.sq (K := X.K))
          simp only at hc hd
          subst hc hd
          have ie : (its.toArray.isEmpty || (0 : Int) == 1) = false := by
            cases its with
            | nil =>
              cases r2
              cases r
              exact (hne rfl).elim
            | cons a b => rfl
          refine wpAny_binaryOp_repeat_ref (T := "tuple") (U := "int") (by decide) ⟨_, ho, rfl⟩ (fun s' => typeIs_int s' 0 tk) noFill_tuple_mul F.fills_int_mul F.slot_int_rmul repeat_tuple F.slot_int_index.lookup
            (call_meets F.slot_int_rmul (typeIs_int s 0 tk) F.entry_int_rmul (F.args_int_rmul_2 _ _) (int_rmul_tuple 0 tk _ _ m dd sl)
              ⟨ho, rfl, ⟨_, ho, rfl⟩, call_meets F.slot_tuple_mul ⟨_, ho, rfl⟩ F.entry_tuple_mul (F.args_tuple_mul_2 _ _) (tuple_mulZ _ its.toArray m dd sl tk ie) ⟨ho, ?_⟩⟩)
          have fr := I.hok.fresh (Nat.le_refl s.heap.objs.size)
          have J := Inv.tupF I (us := []) (xs := []) .nil (Nat.zero_le _)
          exact ⟨.ref s.heap.objs.size, _, J, rfl, q _ _ (smN fr) (.tup ⟨_, upd_same, rfl⟩ (dm.not fr) (Nat.zero_le _) .nil)⟩
      · rw [if_neg h2] at e
        exact o_mulX pn s σ H _ _ v u Q I rx ry ⟨M, _, _, d, dm, ra, rb, e, q⟩
  · refine o_mulX pn s σ H _ _ v u Q I rx ry ⟨M, a, b, d, dm, ra, rb, ?_, q⟩
    unfold mulY at e
    split at e
    · exact (hb ⟨_, _, rfl, rfl⟩).elim
    · exact e
/-- str of a number -/
def strD : List D → Option D
  | [.int i] => if i.natAbs < 10 ^ 30 then some (.str (Str.ofString (toString i))) else none
  | _ => none
theorem c_strI : CallR X (.type "str") (rC strD) := by
  intro pn s σ H xs us Q I r h
  obtain ⟨M, ds, d, dm, ra, e, q⟩ := h
  match ds, ra, e with
  | [.int i], .cons rx .nil, e =>
    cases rx
    obtain ⟨l, rfl⟩ := iteS e
    refine call_str_int pn s σ H _ us Q I r ⟨i, rfl, Nat.lt_trans (log30 l) (by decide), q _ _ (Same.refl _) (.str _ ?_)⟩
    have := int_text_length_le10 (a := i) (k := 30) (by decide) l
    show (Str.ofString (toString i)).length ≤ sizeLine
    rw [PySem.ofString_length]
    exact Nat.le_trans this (by decide)
/-- sorted, the greatest first -/
def sortR (ns : List Int) : List Int := ns.mergeSort fun a b => decide (b ≤ a)
theorem sortR_perm (ns : List Int) : (sortR ns).Perm ns := List.mergeSort_perm ns _
theorem sortR_pw (ns : List Int) : (sortR ns).Pairwise (· ≥ ·) := by
  have := List.pairwise_mergeSort (le := fun a b : Int => decide (b ≤ a)) (fun a b c h1 h2 => by simp at *; omega) (fun a b => by simp; omega) ns
  exact this.imp fun h => by simpa using h
theorem pw_uniq : ∀ {a b : List Int}, a.Perm b → a.Pairwise (· ≥ ·) → b.Pairwise (· ≥ ·) → a = b
  | [], b, p, _, _ => (List.nil_perm.mp p).symm
  | x :: a, [], p, _, _ => absurd p.length_eq (by simp)
  | x :: a, y :: b, p, ha, hb => by
    have h1 := List.pairwise_cons.mp ha
    have h2 := List.pairwise_cons.mp hb
    have e : x = y := by
      have m1 : x ∈ y :: b := p.mem_iff.mp List.mem_cons_self
      have m2 : y ∈ x :: a := p.mem_iff.mpr List.mem_cons_self
      rcases List.mem_cons.mp m1 with e | m1
      · exact e
      · rcases List.mem_cons.mp m2 with e | m2
        · exact e.symm
        · have := h1.1 y m2
          have := h2.1 x m1
          omega
    subst e
    rw [pw_uniq ((List.perm_cons _).mp p) h1.2 h2.2]
def sorD : D → Option D
  | .list ds => (intsD ds).map fun ns => .list ((sortR ns).map .int)
  | _ => none
theorem ints_rp {M : Addr → Prop} {H : Hp} : ∀ ns : List Int, RpAll M H (ns.map V.int) (ns.map PyData.int)
  | [] => .nil
  | n :: ns => .cons (.int n) (ints_rp ns)
theorem dE_sorR {e : Expr} {p pos kpos cpos : Pos} {k : Nat} {f : EF} {μ : Bool} (h : PE X e (tD μ f)) (hg : Gl X "sorted") (hm : X.mg "sorted" = none) (he : starEach [e] X.env = (false, eval e X.env) :: starEach [] X.env := by rfl)
    (he2 : backTo pos (starEach [e] X.env) = (false, eval e X.env) :: backTo pos (starEach [] X.env) := by rfl) (hpl : (backTo pos (starEach [e] X.env)).any (·.1) = false := by rfl) :
    PE X (.Call (.Name "sorted" p) [e] [⟨some "reverse", .Constant (.bool true) k cpos, kpos⟩] pos) (tD μ (e1 sorD f)) := (pe_callBK cr_sortedRev hg hm (by decide +kernel) (pa_cons h pa_nil he) (pk_cons (pe_bl (b := true)) pk_nil) (he := he2) (hpl := hpl)).wk fun σ H Q q => by
  obtain ⟨M0, H0, ρ, d, R, e, q⟩ := q
  obtain ⟨d1, e1, eb⟩ := some_bind e
  clear e
  refine ⟨M0, H0, ρ, d1, R, e1, fun v H1 s1 r1 => ?_⟩
  cases r1 <;> (try (cases eb; done))
  rename_i t n l r
  obtain ⟨ns, en, rfl⟩ := some_map eb
  have hv := r.ints en
  subst hv
  refine ⟨_, ns, rfl, rfl, SqL.of t, fun ns' a pm od np => ?_⟩
  have : ns' = sortR ns := pw_uniq (pm.trans (sortR_perm ns).symm) od (sortR_pw ns)
  subst this
  exact q _ _ (s1.trans (smN np)) (.lst upd_same (((R.mono s1).domu μ).not np) (by rw [List.length_map, (sortR_perm ns).length_eq, ← List.length_map (f := V.int)]; exact l) (ints_rp _))
/-- a call of a def that shows something -/
theorem dE_clG {k n : Nat} {x : Str} {ps : List Str} {g : List D → Option D} {p pos : Pos} {e : Expr} {es : List Expr} {f : Rho → Option (List D)} {μ : Bool} (C : ClG X.prog X.w X.K X.mg X.base k x ps (spD n g)) (hr : Room k X.A) (free : X.A.guards = some []) (hg : Gl X x) (ha : PA X (e :: es) (tA μ f))
    (hdb : (x == ("__debug__" : Str)) = false := by decide) (he : starEach (e :: es) X.env = (false, eval e X.env) :: starEach es X.env := by rfl) (hpl : (backTo pos (starEach es X.env)).any (·.1) = false := by rfl) :
    PE X (.Call (.Name x p) (e :: es) [] pos) (tD μ (eCall (gN n g) f)) := (pe_clG C hr free hg ha hdb he hpl).wk fun σ H Q q => by
  obtain ⟨M0, H0, ρ, d, R, e, q⟩ := q
  obtain ⟨ds, ed, e⟩ := some_bind e
  refine ⟨M0, H0, ρ, ds, R, ed, fun vs H1 s1 r1 => ?_⟩
  unfold gN at e
  split at e
  · rename_i l
    rw [List.append_nil]
    exact ⟨_, ds, d, (R.mono s1).domu μ, r1, l, e, fun v H2 s2 r2 => q v H2 (s1.trans s2) r2⟩
  · cases e
end
end Dl
namespace Dl
open PySem PySem.Spec PyProof.Rows L2 Rt
section
variable {X : Cx} {K : PySem.W.Frag}
def neX : D → D → Option D
  | .list ds, .list [] => neL0 (.list ds) (.list [])
  | a, b => neD a b
theorem o_neX (hu : X.A.units + 64 < cLine) : OpR X (compareOp .NotEq) (rD neX) := by
  intro pn s σ H x y v u Q I rx ry h
  obtain ⟨M, a, b, d, dm, ra, rb, e, q⟩ := h
  unfold neX at e
  split at e
  · exact o_neL0 hu pn s σ H _ _ v u Q I rx ry ⟨M, _, _, d, dm, ra, rb, e, q⟩
  · exact o_ne hu pn s σ H _ _ v u Q I rx ry ⟨M, _, _, d, dm, ra, rb, e, q⟩
/-- a list + a list, a new one -/
def catL : D → D → Option D
  | .list a, .list b => if a.length + b.length ≤ sizeLine then some (.list (a ++ b)) else none
  | _, _ => none
theorem oE_catD {a b : Expr} {pos : Pos} {f1 f2 : EF} (ha : PE X a (tD true f1)) (hb : PE X b (tD true f2)) : PE X (.BinOp a .Add b pos) (tN (e2 catL f1 f2)) := (pe_op op_cat ha hb).wk fun σ H Q q => by
  obtain ⟨M0, H0, ρ, ds, R, e, q⟩ := q
  obtain ⟨d1, e1, ea⟩ := some_bind e
  obtain ⟨d2, e2, eb⟩ := some_bind ea
  clear e ea
  refine ⟨M0, H0, ρ, d1, R, e1, fun v1 H1 s1 r1 => ⟨M0, H0, ρ, d2, R.mono s1, e2, fun v2 H2 s2 r2 => ?_⟩⟩
  cases r1 <;> (try (cases r2 <;> cases eb; done))
  rename_i t n l r
  cases r2 <;> (try (cases eb; done))
  rename_i t2 n2 l2 r2
  obtain ⟨l3, e3⟩ := iteS eb
  cases e3
  refine ⟨_, _, _, _, rfl, rfl, s2 _ _ t, t2, by rw [r.len, r2.len]; exact l3, fun p hp => q p _ _ ?_ ((s1.trans s2).trans (smN hp)) upd_same (by rw [List.length_append, r.len, r2.len]; exact l3) ?_⟩
  · cases z : H p with
    | none => rfl
    | some o => rw [(s1.trans s2) _ _ z] at hp; cases hp
  · have k : ∀ a, Mi true M0 σ ρ p a → Mu true M0 σ ρ a ∨ H2 a = none := fun a m => by
      rcases m with m | rfl
      · exact .inl m
      · exact .inr hp
    exact (((r.mono (.of s2)).reM k).mono (.of (smN hp))).app ((r2.reM k).mono (.of (smN hp)))
def eqT0 : D → D → Option D
  | .tuple ds, .tuple [] => some (.bool ds.isEmpty)
  | _, _ => none
theorem o_eqT0 (hu : X.A.units + 64 < cLine) : OpR X (compareOp .Eq) (rD eqT0) := by
  intro pn s σ H x y v u Q I rx ry h
  obtain ⟨M, a, b, d, dm, ra, rb, e, q⟩ := h
  cases ra <;> (try (cases rb <;> cases e; done))
  rename_i xs ds t n l r
  cases rb <;> (try (cases e; done))
  rename_i xs2 ds2 t2 n2 l2 r2
  cases r2 <;> (try (cases e; done))
  cases e
  cases rx
  cases ry
  obtain ⟨its, vi, it, _⟩ := I.tuple t.sq
  obtain ⟨its2, vi2, it2, _⟩ := I.tuple t2.sq
  cases vi2
  refine SeqAt.RcAt.tuples (e := fun _ => true) it it2 (by omega) (fun j _ h2 => absurd h2 (by simp)) _ _ _ _ ⟨.bl _, H, I, ?_, q _ _ (Same.refl _) (.bl _)⟩
  show Value.bool _ = Value.bool _
  congr 1
  cases r <;> cases vi <;> simp
def eqX : D → D → Option D
  | .tuple ds, .tuple [] => eqT0 (.tuple ds) (.tuple [])
  | a, b => eqD a b
theorem o_eqX (hu : X.A.units + 64 < cLine) : OpR X (compareOp .Eq) (rD eqX) := by
  intro pn s σ H x y v u Q I rx ry h
  obtain ⟨M, a, b, d, dm, ra, rb, e, q⟩ := h
  unfold eqX at e
  split at e
  · exact o_eqT0 hu pn s σ H _ _ v u Q I rx ry ⟨M, _, _, d, dm, ra, rb, e, q⟩
  · exact o_eq hu pn s σ H _ _ v u Q I rx ry ⟨M, _, _, d, dm, ra, rb, e, q⟩
def eqS' : D → D → Option D
  | .str a, .str b => some (.bool (a == b))
  | _, _ => none
theorem o_eqS (hu : X.A.units + 64 < cLine) : OpR X (compareOp .Eq) (rD eqS') := by
  intro pn s σ H x y v u Q I rx ry h
  obtain ⟨M, a, b, d, dm, ra, rb, e, q⟩ := h
  cases ra <;> (try (cases rb <;> cases e; done))
  cases rb <;> (try (cases e; done))
  cases e
  obtain ⟨t, rfl⟩ := rx
  obtain ⟨t', rfl⟩ := ry
  exact SeqAt.RcAt.str_str _ _ _ _ _ _ _ _ ⟨.bl _, H, I, rfl, q _ _ (Same.refl _) (.bl _)⟩
end
end Dl
namespace Dl
open PySem PySem.Spec PyProof.Rows L2 Rt
section
variable {X : Cx} {K : PySem.W.Frag}
/-- a list beside [] -/
def eqL0 : D → D → Option D
  | .list ds, .list [] => some (.bool ds.isEmpty)
  | _, _ => none
theorem o_eqL0 (hu : X.A.units + 64 < cLine) : OpR X (compareOp .Eq) (rD eqL0) := by
  intro pn s σ H x y v u Q I rx ry h
  obtain ⟨M, a, b, d, dm, ra, rb, e, q⟩ := h
  cases ra <;> (try (cases rb <;> cases e; done))
  rename_i xs ds t n l r
  cases rb <;> (try (cases e; done))
  rename_i xs2 ds2 t2 n2 l2 r2
  cases r2 <;> (try (cases e; done))
  cases e
  cases rx
  cases ry
  obtain ⟨_, its, k, vi, g⟩ := I.hok _ _ t
  obtain ⟨_, its2, k2, vi2, g2⟩ := I.hok _ _ t2
  cases vi2
  cases r with
  | nil =>
    cases vi
    refine SeqAt.RcAt.lists (e := fun _ => true) ⟨_, g, rfl, _, rfl⟩ ⟨_, g2, rfl, _, rfl⟩ rfl (by omega) (fun j h1 _ => absurd h1 (by simp)) _ _ _ _ ⟨.bl _, H, I, ?_, q _ _ (Same.refl _) (.bl _)⟩
    show Value.bool _ = Value.bool _
    simp
  | cons h1 h2 =>
    cases vi
    refine SeqAt.RcAt.lists_lengths ⟨_, g, rfl, _, rfl⟩ ⟨_, g2, rfl, _, rfl⟩ (by simp) (by omega) _ _ _ _ ⟨.bl _, H, I, ?_, q _ _ (Same.refl _) (.bl _)⟩
    rfl
/-- == and != : beside (), [], a text whatever stands there; else by data -/
def eqZ : D → D → Option D
  | .tuple ds, .tuple [] => eqT0 (.tuple ds) (.tuple [])
  | .list ds, .list [] => eqL0 (.list ds) (.list [])
  | a, b => eqD a b
theorem o_eqZ (hu : X.A.units + 64 < cLine) : OpR X (compareOp .Eq) (rD eqZ) := by
  intro pn s σ H x y v u Q I rx ry h
  obtain ⟨M, a, b, d, dm, ra, rb, e, q⟩ := h
  unfold eqZ at e
  split at e
  · exact o_eqT0 hu pn s σ H _ _ v u Q I rx ry ⟨M, _, _, d, dm, ra, rb, e, q⟩
  · exact o_eqL0 hu pn s σ H _ _ v u Q I rx ry ⟨M, _, _, d, dm, ra, rb, e, q⟩
  · exact o_eq hu pn s σ H _ _ v u Q I rx ry ⟨M, _, _, d, dm, ra, rb, e, q⟩
def neZ : D → D → Option D
  | .tuple ds, .tuple [] => neT0 (.tuple ds) (.tuple [])
  | .list ds, .list [] => neL0 (.list ds) (.list [])
  | a, b => neQ a b
theorem o_neZ (hu : X.A.units + 64 < cLine) : OpR X (compareOp .NotEq) (rD neZ) := by
  intro pn s σ H x y v u Q I rx ry h
  obtain ⟨M, a, b, d, dm, ra, rb, e, q⟩ := h
  unfold neZ at e
  split at e
  · exact o_neT0 hu pn s σ H _ _ v u Q I rx ry ⟨M, _, _, d, dm, ra, rb, e, q⟩
  · exact o_neL0 hu pn s σ H _ _ v u Q I rx ry ⟨M, _, _, d, dm, ra, rb, e, q⟩
  · exact o_neQ hu pn s σ H _ _ v u Q I rx ry ⟨M, _, _, d, dm, ra, rb, e, q⟩
/-- list(range(a, b)) -/
def eLstRg2 (f g : EF) : EF := fun ρ => (f ρ).bind fun a => (g ρ).bind fun b => match a, b with
  | .int i, .int j => if -(2 ^ 62) ≤ i ∧ i < 2 ^ 62 ∧ -(2 ^ 62) ≤ j ∧ j < 2 ^ 62 ∧ j - i < 2 ^ 20 then some (.list (rgD i (j - i).toNat)) else none
  | _, _ => none
theorem rgV_rp2 {M : Addr → Prop} {H : Hp} (i j : Int) : RpAll M H (rgV i j) (rgD i (j - i).toNat) := by
  unfold rgV rgD
  induction (List.range (j - i).toNat) with
  | nil => exact .nil
  | cons i r ih => exact .cons (.int _) ih
theorem dE_lstRg2 {e1 e2 : Expr} {p pos p2 pos2 : Pos} {f g : EF} {μ : Bool} (hc : X.calm = true) (hg : Gl X "list") (hm : X.mg "list" = none) (hg2 : Gl X "range") (hm2 : X.mg "range" = none) (h1 : PE X e1 (tD μ f)) (h2 : PE X e2 (tD μ g))
    (na : starEach [(Expr.Call (.Name "range" p2) [e1, e2] [] pos2)] X.env = (false, eval (Expr.Call (.Name "range" p2) [e1, e2] [] pos2) X.env) :: starEach [] X.env := by rfl)
    (nb : starEach [e1, e2] X.env = (false, eval e1 X.env) :: starEach [e2] X.env := by rfl) (nc : starEach [e2] X.env = (false, eval e2 X.env) :: starEach [] X.env := by rfl) (hp : (backTo pos2 (starEach [e2] X.env)).any (·.1) = false := by rfl) :
    PE X (.Call (.Name "list" p) [.Call (.Name "range" p2) [e1, e2] [] pos2] [] pos) (tD μ (eLstRg2 f g)) := (pe_listRg hc hg hm (prg_2 hg2 hm2 h1 h2 nb nc hp) na).wk fun σ H Q q => by
  obtain ⟨M0, H0, ρ, d, R, e, q⟩ := q
  obtain ⟨a, ea, e'⟩ := some_bind e
  obtain ⟨b, eb, e''⟩ := some_bind e'
  clear e e'
  refine ⟨M0, H0, ρ, a, R, ea, fun x H1 s1 r1 => ⟨M0, H0, ρ, b, R.mono s1, eb, fun y H2 s2 r2 => ?_⟩⟩
  cases a <;> try (cases e''; done)
  cases b <;> try (cases e''; done)
  rename_i i j
  obtain ⟨l, rfl⟩ := iteS e''
  cases r1
  cases r2
  exact ⟨i, j, rfl, rfl, ⟨l.1, l.2.1, l.2.2.1, l.2.2.2.1, by omega⟩, fun q' np => q _ _ ((s1.trans s2).trans (smN np)) (.lst upd_same (((R.mono (s1.trans s2)).domu μ).not np) (by rw [rgV_length]; exact szR (by omega)) (rgV_rp2 i j))⟩
/-- a new list that may be made by looking at lists of one's own -/
def wFr (f : EF) : WP D := ⟨fun ρ b Q => ∃ ds, f (shutR false ρ) = some (.list ds) ∧ nlAll ds = true ∧ Q (.list ds) b, fun h ⟨d, e, n, q⟩ => ⟨d, e, n, h _ _ q⟩⟩
theorem nFr {f : EF} {σ : L2.St} {H : Hp} {Q : VK} (q : tn (wFr f) σ H Q) : tN f σ H Q := by
  obtain ⟨g, M0, H0, ρ, b, R, ds, e, n, q⟩ := q
  refine ⟨_, H, _, ds, R.rs false, e, fun p vs H' np s eH l r => q _ H' (.of s) (Pl.same R.iv s) (.lst eH ((R.domu true).not np) l ((r.reM (M' := M0) fun a m => .inl (.inl (.inl (.inl m)))).nl n fun a m => ?_))⟩
  rcases m with m | ⟨_, i, ds, e1, e2⟩
  · exact .inl m
  · obtain ⟨p, vs, x, y, _⟩ := (R.mono s).own i ds e1
    rw [e2] at x
    cases x
    exact .inr ⟨_, y⟩
theorem nS_lcL {st : Stmt} {i : Nat} {it : Rho → Option (List D)} {p : Pat} {c : Rho → Option Bool} {f : EF} {vs : List Nat} {μi pr : Bool} (h : PS X st (tAsg (tLc (iD true pr it) (gP K p) (tT c) (tD μi f) vs) (gName i))) (hp : p.fits pr = true := by rfl) (hs : ∀ j, j ∈ slP p → j ∈ vs := by decide) : PS X st (tSn (swAsg (.nm i) (wFr (eLc true vs it p c f)))) :=
  nS_asg (K := K) (h.wk fun Dn σ H q => nLc hp hs (nFr q))
/-- a, b = two new lists, through a tuple -/
def swParT (i j : Nat) (f g : EF) : WP Out := ⟨fun ρ b Q => ∃ ds es, f (shutR true ρ) = some (.list ds) ∧ g (shutR true ρ) = some (.list es) ∧ i < ρ.length ∧ j < ρ.length ∧ i ≠ j ∧ Q (.nx ((ρ.set i (some (.own ds))).set j (some (.own es)))) b, fun h ⟨ds, es, a, b, c, d, n, q⟩ => ⟨ds, es, a, b, c, d, n, h _ _ q⟩⟩
theorem nS_parT {st : Stmt} {i j : Nat} {f g : EF} (h : PS X st (tAsg (tTupF (tCons (tN f) (tCons (tN g) tNil))) (gP K (.tp (.cons (.nm i) (.cons (.nm j) .nil)))))) : PS X st (tSn (swParT i j f g)) := h.wk fun Dn σ H q => by
  obtain ⟨pl, M0, H0, ρ, b, R, ds, es, ef, eg, hi, hj, hij, q⟩ := q
  have Rs1 := R.rs true
  refine ⟨_, H, _, ds, Rs1, ef, fun p1 vs H1 np1 s1 eH1 l1 r1 => ?_⟩
  have no : ∀ a, Mu true (fun a => Mu true M0 σ ρ a ∨ a = p1) σ (shutR true ρ) a → Mu true M0 σ ρ a ∨ a = p1 := fun a m => by
    rcases m with m | ⟨_, i, ds, e, _⟩
    · exact m
    · exact (shut_nown e).elim
  have Rs2 : Rs (fun a => Mu true M0 σ ρ a ∨ a = p1) H1 H1 σ (shutR true ρ) := by
    refine ⟨Same.refl _, fun p m => ?_, Rs1.len, fun k d e => ?_, fun k ds e => (shut_nown e).elim, Rs1.raw, fun k l a b p e => (shut_nown e).elim⟩
    · rcases m with m | rfl
      · exact ((R.domu true).mono s1) p m
      · rw [eH1]; intro z; cases z
    · obtain ⟨v, a, c⟩ := Rs1.dat k d e
      refine ⟨v, a, (c.reM fun a m => ?_).mono (.of s1)⟩
      rcases no a m with m | rfl
      · exact .inl (.inl m)
      · exact .inr np1
  refine ⟨_, H1, _, es, Rs2, eg, fun p2 ws H2 np2 s2 eH2 l2 r2 => ?_⟩
  refine ⟨by show 2 ≤ sizeLine; decide, fun p3 H3 np3 s3 t3 => ⟨p3, _, rfl, t3.sq, rfl, _, _, rfl, _, _, rfl, rfl, ?_⟩⟩
  obtain ⟨R1, st1⟩ := R.ownNew (i := i) hi np1 (.of s1) (Pl.same R.iv s1) eH1 l1 (r1.reM fun a m => by
    rcases m with m | rfl
    · exact .inl (.inl (.inl m))
    · exact .inl (.inr rfl))
  obtain ⟨R2, st2⟩ := R1.ownNew (i := j) (by rw [List.length_set]; exact hj) np2 (.of s2) (Pl.same R1.iv s2) eH2 l2 (r2.reM fun a m => by
    rcases m with m | rfl
    · refine .inl (.inl (.inl ?_))
      rcases m with m | ⟨_, k, es', e1, e2⟩
      · exact .inl (.inl m)
      · rcases set_get e1 with ⟨rfl, _⟩ | ⟨n, e1⟩
        · rw [set_same (by rw [← R.len]; exact hi)] at e2
          cases e2
          exact .inr rfl
        · rw [set_other n] at e2
          exact .inl (.inr ⟨rfl, k, es', e1, e2⟩)
    · exact .inl (.inr rfl))
  exact q _ H3 (R2.mono s3) ((st1.trans st2).trans ⟨.of s3, fun p m => .inl m⟩)
/-- a, b = a list of two -/
def swAsgL (ps : Pats) (f : WP D) : WP Out := ⟨fun ρ b Q => f.w ρ b fun d b' => ∃ ds ρ1, d = .list ds ∧ bindPs ps ds ρ = some ρ1 ∧ Q (.nx ρ1) b', fun h z => f.m (fun d b' ⟨ds, ρ1, e, e1, y⟩ => ⟨ds, ρ1, e, e1, h _ _ y⟩) z⟩
theorem nS_asgL {st : Stmt} {ps : Pats} {f : WP D} (h : PS X st (tAsg (tn f) (gLst K ps.len (gPs K ps)))) : PS X st (tSn (swAsgL ps f)) := h.wk fun Dn σ H q => by
  obtain ⟨g, M0, H0, ρ, b, R, q⟩ := q
  refine ⟨g, M0, H0, ρ, b, R, f.m (fun d b' ⟨ds, ρ1, e, e1, q⟩ v H1 k1 i1 r1 => ?_) q⟩
  subst e
  cases r1
  rename_i a xs t n l r
  exact ⟨_, xs, rfl, SqL.of t, by rw [r.len]; exact bindPs.len e1, bindPs.okN (R.up k1 i1) r e1 fun σ1 R1 B1 => q σ1 H1 R1 ((R.stp k1).trans ⟨.refl, fun p m => .inl (B1.mu p m)⟩)⟩
def sAsgL (ps : Pats) (f : EF) : Rho → Option Out := fun ρ => (f ρ).bind fun d => match d with
  | .list ds => (bindPs ps ds ρ).map .nx
  | _ => none
theorem dS_asgL {st : Stmt} {ps : Pats} {f : EF} (h : PS X st (tAsg (tD true f) (gLst K ps.len (gPs K ps)))) : PS X st (tS (sAsgL ps f)) := h.wk fun Dn σ H q => by
  obtain ⟨M0, H0, ρ, o, R, e, q⟩ := q
  obtain ⟨d, ed, e'⟩ := some_bind e
  clear e
  refine ⟨M0, H0, ρ, d, R, ed, fun v H1 s1 r1 => ?_⟩
  cases d <;> try (cases e'; done)
  obtain ⟨ρ1, e1, rfl⟩ := some_map e'
  cases r1
  rename_i a xs t n l r
  exact ⟨_, xs, rfl, SqL.of t, by rw [r.len]; exact bindPs.len e1, bindPs.ok (R.mono s1) r e1 fun σ1 R1 B1 => q σ1 H1 R1 ⟨.of s1, fun p m => .inl (B1.mu p m)⟩⟩
theorem ev_asgL {ps : Pats} {f : EF} {g : Rho → Option Out} {ρ ρ' : Rho} {ds : List D} (hf : f ρ = some (.list ds)) (hb : bindPs ps ds ρ = some ρ') : sSeq (sAsgL ps f) g ρ = g ρ' := by
  unfold sSeq sAsgL
  rw [hf]
  show ((bindPs ps ds ρ).map Out.nx).bind _ = _
  rw [hb]
  rfl
/-- a walk over a list that is drawn -/
def lisI : D → Option (List D)
  | .list ds => some ds
  | _ => none
theorem nI_lst {tg e : Expr} {f : WP D} (h : PE X e (tn f)) : PI X tg e (inn false (wB f lisI)) := (pi_list h).wk fun σ H R q => by
  obtain ⟨p, M0, H0, ρ, b, Rr, q⟩ := q
  refine ⟨p, M0, H0, ρ, b, Rr, f.m (fun d b1 ⟨ds, e, q⟩ v H1 k1 i1 r1 => ?_) q⟩
  cases d <;> try (cases e; done)
  cases e
  cases r1 with
  | lst t n l r => exact ⟨_, rfl, ⟨_, SqL.of t⟩, q _ _ k1 i1 fun M' hM => DW.lst t (nM hM n t) l (r.reM hM)⟩
/-- a statement that is never come to -/
def sNo : Rho → Option Out := fun _ => none
theorem dS_no {st : Stmt} : PS X st (tS sNo) := ⟨fun pn s σ H Q I q => by
  obtain ⟨M0, H0, ρ, o, R, e, q⟩ := q
  cases e⟩
end
end Dl
namespace Dl
open PySem PySem.Spec PyProof.Rows L2 Rt
theorem brI {X : Wd} {b c : D} : (brR X (.tuple [S "brought", b, c])).isSome = (isFrom 0 ((X.ss.length : Int) - 1) b && isFrom 0 3000000000000000 c) := by
  cases b with
  | int i =>
    cases c with
    | int t =>
      rw [show brR X (.tuple [S "brought", .int i, .int t]) = if Str.ofString "brought" = Str.ofString "brought" ∧ 0 ≤ i ∧ 0 ≤ t ∧ t ≤ 3000000000000000 then (X.ss[i.toNat]?).map fun r => (i.toNat, r, t) else none from rfl]
      show _ = ((decide (0 ≤ i) && decide (i ≤ (X.ss.length : Int) - 1)) && (decide (0 ≤ t) && decide (t ≤ 3000000000000000)))
      by_cases h0 : 0 ≤ i
      · by_cases t0 : 0 ≤ t
        · by_cases t1 : t ≤ 3000000000000000
          · rw [if_pos ⟨rfl, h0, t0, t1⟩]
            by_cases h1 : i ≤ (X.ss.length : Int) - 1
            · rw [List.getElem?_eq_getElem (by omega)]; simp [h0, h1, t0, t1]
            · rw [List.getElem?_eq_none (by omega)]; simp [h1]
          · rw [if_neg fun e => t1 e.2.2.2]; simp [t1]
        · rw [if_neg fun e => t0 e.2.2.1]; simp [t0]
      · rw [if_neg fun e => h0 e.2.1]; simp [h0]
    | none | bool _ | str _ | list _ | tuple _ | dict _ => exact (Bool.and_false _).symm
  | none | bool _ | str _ | list _ | tuple _ | dict _ => rfl
def ptsOk (m : Nat) (n : Int) : D → Bool
  | .tuple ds => decide (ds.length = m) && ds.all (isFrom 0 (n - 1))
  | _ => false
theorem mdI0 {X : Wd} {n : Int} {b c e : D} (h : isFrom 0 ((X.ws.length : Int) - 1) b = false ∨ isFrom 0 3000000000000000 c = false) : mdR X n (.tuple [S "made", b, c, e]) = none := by
  refine mdR_none fun z i t ds _ e1 e2 _ => ?_
  subst e1
  subst e2
  rw [mdR_eq]
  by_cases q : z = Str.ofString "made" ∧ 0 ≤ i ∧ 0 ≤ t ∧ t ≤ 3000000000000000
  · rw [if_pos q]
    rcases h with h | h
    · have h : (decide (0 ≤ i) && decide (i ≤ (X.ws.length : Int) - 1)) = false := h
      rw [decide_eq_true q.2.1] at h
      have h := of_decide_eq_false h
      rw [List.getElem?_eq_none (by omega)]
      rfl
    · have h : (decide (0 ≤ t) && decide (t ≤ 3000000000000000)) = false := h
      rw [decide_eq_true q.2.2.1, decide_eq_true q.2.2.2] at h
      cases h
  · exact if_neg q
theorem mdI1 {X : Wd} {n : Int} {k : Nat} {t : Int} {y : Wy} {e : D} (hy : X.ws[k]? = some y) (t0 : 0 ≤ t) (t3 : t ≤ 3000000000000000) : (mdR X n (.tuple [S "made", .int (k : Nat), .int t, e])).isSome = ptsOk y.ps.length n e := by
  cases e with
  | tuple ds =>
    rw [show mdR X n (.tuple [S "made", .int (k : Nat), .int t, .tuple ds]) = _ from mdR_eq, if_pos ⟨rfl, by omega, t0, t3⟩]
    show ((X.ws[k]?).bind _).isSome = _
    rw [hy]
    show (if ds.length = y.ps.length ∧ ds.all (isFrom 0 (n - 1)) = true then (intsD ds).map _ else none).isSome = (decide (ds.length = y.ps.length) && ds.all (isFrom 0 (n - 1)))
    cases ha : ds.all (isFrom 0 (n - 1)) with
    | true =>
      obtain ⟨ns, _, e2, _⟩ := ints_all ha
      by_cases hl : ds.length = y.ps.length
      · rw [if_pos ⟨hl, rfl⟩, e2, decide_eq_true hl]; rfl
      · rw [if_neg fun q => hl q.1, decide_eq_false hl]; rfl
    | false =>
      rw [if_neg fun e => Bool.false_ne_true e.2, Bool.and_false]
      rfl
  | none | bool _ | int _ | str _ | list _ | dict _ => rfl
theorem rw_br {X : Wd} {n : Nat} {d : D} (h : mdR X n d = none) : (rwOf X n d).isSome = (brR X d).isSome := by
  unfold rwOf
  cases hb : brR X d with
  | some q => rfl
  | none =>
    show (match mdR X n d with | some (j, y, t, ns) => some (Rw.md j y t ns) | none => none).isSome = _
    rw [h]
    rfl
theorem rw_md {X : Wd} {n : Nat} {d : D} (h : brR X d = none) : (rwOf X n d).isSome = (mdR X n d).isSome := by
  unfold rwOf
  rw [h]
  show (match mdR X n d with | some (j, y, t, ns) => some (Rw.md j y t ns) | none => none).isSome = _
  cases mdR X n d <;> rfl
def isSt : D → Bool
  | .str _ => true
  | _ => false
theorem isi_st (d : D) : isTy "str" d = some (.bool (isSt d)) := (isi_str d).trans (by cases d <;> rfl)
theorem eqZ_str {a b : Str} (h : PyData.strOk a = true) (h2 : PyData.strOk b = true) : eqZ (.str a) (.str b) = some (.bool (a == b)) := eq_ok (okD_str h) (okD_str h2)
theorem ev_ch {lo hi n : Int} {f1 f2 f3 : EF} {ρ : Rho} (h1 : f1 ρ = some (.int lo)) (h2 : f2 ρ = some (.int n)) (h3 : f3 ρ = some (.int hi)) : eChain leD leD f1 f2 f3 ρ = some (.bool (decide (lo ≤ n) && decide (n ≤ hi))) := by
  unfold eChain
  rw [h1, h2, h3]
  by_cases h : lo ≤ n <;> simp [leD, bB, h]
theorem filt_empty {α : Type} {p : α → Bool} : ∀ xs : List α, ((xs.filter fun x => !p x).map id).isEmpty = xs.all p
  | [] => rfl
  | x :: xs => by
    cases h : p x with
    | true => rw [List.filter_cons_of_neg (by simp [h]), filt_empty xs, List.all_cons, h]; rfl
    | false => rw [List.filter_cons_of_pos (by simp [h]), List.all_cons, h]; rfl
section
variable {P : Program} {w : World} {K : PySem.W.Frag} {mg : Str → Option Value} {base : Heap}
theorem ok_isRow {f : Addr} {fd : FuncData} (F : Fun K "_law_is_row" "_law_is_row" s_law_is_row f fd) (m_isinstance : mg "isinstance" = none) (m_tuple : mg "tuple" = none) (m_str : mg "str" = none) (m_len : mg "len" = none) (C__law_is : Cl P w K mg base 1 "_law_is" ["_law_thing", "_law_low", "_law_high"] (spD 3 sFrom)) : FnOk P w K mg base CX0 2 f fd ["_law_world_here", "_law_row", "_law_ahead"] (spD 3 SIsR.f) := by
  refine okFn F sc_law_is_row rfl fun cdv A outer s H E hr => ⟨_, (dSs_cons (dS_if (PW.pt (dW_or (dT_not (dT_val (dE_isi (dE_var (μ := true) (pv 1)) (pe_bltn (v := .ty "tuple") (by rfl) m_tuple (by decide +kernel) rfl) (by rfl) m_isinstance (by decide +kernel)))) (dW_or (dT_not (dT_chain o_le o_le (dE_c (μ := true) pe_int) (dE_callB c_len (by rfl) m_len (by decide +kernel) (dA_cons (dE_var (μ := true) (pv 1)) (dA_nil (μ := true)))) (dE_c (μ := true) pe_int))) (dW_or1 (dT_not (dT_val (dE_isi (dE_ix (dE_var (μ := true) (pv 1)) (dE_c (μ := true) pe_int)) (pe_bltn (v := .ty "str") (by rfl) m_str (by decide +kernel) rfl) (by rfl) m_isinstance (by decide +kernel))))))))
    (dSs_one (dS_ret (ps_ret (dE_c (μ := true) pe_bl))))
    dSs_nil)
  (dSs_cons (dS_if (dT_cmp (o_eqZ hr.units) (dE_ix (dE_var (μ := true) (pv 1)) (dE_c (μ := true) pe_int)) (dE_c (μ := true) pe_str) (nomark _))
    (dSs_cons (dS_if (PW.pt (dW_or (dT_cmp (o_neZ hr.units) (dE_callB c_len (by rfl) m_len (by decide +kernel) (dA_cons (dE_var (μ := true) (pv 1)) (dA_nil (μ := true)))) (dE_c (μ := true) pe_int) (nomark _)) (dW_or1 (dT_not (dT_val (dE_cl C__law_is (hr.mono (by omega)) (by rfl) (dA_cons (dE_ix (dE_var (μ := true) (pv 1)) (dE_c (μ := true) pe_int)) (dA_cons (dE_c (μ := true) pe_int) (dA_cons (dE_op o_sub (dE_callB c_len (by rfl) m_len (by decide +kernel) (dA_cons (dE_ix (dE_var (μ := true) (pv 0)) (dE_c (μ := true) pe_int)) (dA_nil (μ := true)))) (dE_c (μ := true) pe_int)) (dA_nil (μ := true)))))))))))
    (dSs_one (dS_ret (ps_ret (dE_c (μ := true) pe_bl))))
    dSs_nil)
  (dSs_one (dS_ret (ps_ret (dE_cl C__law_is (hr.mono (by omega)) (by rfl) (dA_cons (dE_ix (dE_var (μ := true) (pv 1)) (dE_c (μ := true) pe_int)) (dA_cons (dE_c (μ := true) pe_int) (dA_cons (dE_op o_mulX (dE_c (μ := true) pe_int) (dE_op o_pow (dE_c (μ := true) pe_int) (dE_c (μ := true) pe_int))) (dA_nil (μ := true))))))))))
    dSs_nil)
  (dSs_cons (dS_if (PW.pt (dW_or (dT_cmp (o_neZ hr.units) (dE_ix (dE_var (μ := true) (pv 1)) (dE_c (μ := true) pe_int)) (dE_c (μ := true) pe_str) (nomark _)) (dW_or (dT_cmp (o_neZ hr.units) (dE_callB c_len (by rfl) m_len (by decide +kernel) (dA_cons (dE_var (μ := true) (pv 1)) (dA_nil (μ := true)))) (dE_c (μ := true) pe_int) (nomark _)) (dW_or1 (dT_not (dT_val (dE_cl C__law_is (hr.mono (by omega)) (by rfl) (dA_cons (dE_ix (dE_var (μ := true) (pv 1)) (dE_c (μ := true) pe_int)) (dA_cons (dE_c (μ := true) pe_int) (dA_cons (dE_op o_sub (dE_callB c_len (by rfl) m_len (by decide +kernel) (dA_cons (dE_ix (dE_var (μ := true) (pv 0)) (dE_c (μ := true) pe_int)) (dA_nil (μ := true)))) (dE_c (μ := true) pe_int)) (dA_nil (μ := true))))))))))))
    (dSs_one (dS_ret (ps_ret (dE_c (μ := true) pe_bl))))
    dSs_nil)
  (dSs_cons (dS_if (PW.pt (dW_or (dT_not (dT_val (dE_cl C__law_is (hr.mono (by omega)) (by rfl) (dA_cons (dE_ix (dE_var (μ := true) (pv 1)) (dE_c (μ := true) pe_int)) (dA_cons (dE_c (μ := true) pe_int) (dA_cons (dE_op o_mulX (dE_c (μ := true) pe_int) (dE_op o_pow (dE_c (μ := true) pe_int) (dE_c (μ := true) pe_int))) (dA_nil (μ := true)))))))) (dW_or1 (dT_not (dT_val (dE_isi (dE_ix (dE_var (μ := true) (pv 1)) (dE_c (μ := true) pe_int)) (pe_bltn (v := .ty "tuple") (by rfl) m_tuple (by decide +kernel) rfl) (by rfl) m_isinstance (by decide +kernel)))))))
    (dSs_one (dS_ret (ps_ret (dE_c (μ := true) pe_bl))))
    dSs_nil)
  (dSs_cons (dS_asg (K := K) (p := .nm 3) (ps_set (i := 3) sc_law_is_row.nd rfl (.inl rfl) (dE_callB c_len (by rfl) m_len (by decide +kernel) (dA_cons (dE_ix (dE_ix (dE_ix (dE_var (μ := true) (pv 0)) (dE_c (μ := true) pe_int)) (dE_ix (dE_var (μ := true) (pv 1)) (dE_c (μ := true) pe_int))) (dE_c (μ := true) pe_int)) (dA_nil (μ := true))))))
  (dSs_cons (dS_if (dT_cmp (o_neZ hr.units) (dE_callB c_len (by rfl) m_len (by decide +kernel) (dA_cons (dE_ix (dE_var (μ := true) (pv 1)) (dE_c (μ := true) pe_int)) (dA_nil (μ := true)))) (dE_var (μ := true) (pv 3)) (nomark _))
    (dSs_one (dS_ret (ps_ret (dE_c (μ := true) pe_bl))))
    dSs_nil)
  (dSs_one (dS_ret (ps_ret (dE_cmp (o_eqZ hr.units) (dE_lc (K := K) (p := (.nm 4)) (pe_lc (own := [("_law_one_here", 4)]) (g := gP K (.nm 4)) rfl sc_law_is_row.nd (dI_seq (dE_ix (dE_var (μ := true) (pv 1)) (dE_c (μ := true) pe_int))) (blkOk_by (own := [("_law_one_here", 4)]) (N := ["_law_world_here", "_law_row", "_law_ahead", "_law_many", "_law_one_here"]) (sc := defScope s_law_is_row) (by decide +kernel)) (fun _ _ _ _ _ => (pg_name (i := 4) sc_law_is_row.nd rfl (.inl rfl))) (fun _ _ _ _ _ => (pts_one (dT_not (dT_val (dE_cl C__law_is (hr.mono (by omega)) (by rfl) (dA_cons (dE_var (μ := true) (pv 4)) (dA_cons (dE_c (μ := true) pe_int) (dA_cons (dE_op o_sub (dE_var (μ := true) (pv 2)) (dE_c (μ := true) pe_int)) (dA_nil (μ := true)))))))))) (fun _ _ _ _ _ => (dE_var (μ := true) (pv 4))))) (dE_lst (dA_nil (μ := true))) (nomark _))))))))))), fun ds d l e => ?_⟩
  obtain ⟨⟨X, d, n⟩, ⟨hX, hq⟩, rfl, rfl⟩ := Sem.get e
  refine ⟨.rt (.bool (rwOf X n d).isSome), ?_, rfl⟩
  have sl : (X.ss.map Sr.d).length = X.ss.length := List.length_map ..
  have wl : (X.ws.map Wy.d).length = X.ws.length := List.length_map ..
  cases d with
  | none | bool _ | int _ | str _ | list _ | dict _ => exact (ev_guard (b := true) (by exact (ev_oOr (b := true) (ev_not (b := false) (ev_oB (ev_e1 rfl (isi_tuple _))))).trans rfl) rfl).trans rfl
  | tuple ds =>
    have hq := (gq.two hq).2
    match ds, hq with
    | [], _ => exact (ev_guard (b := true) (by exact (ev_oOr (b := false) (ev_not (b := true) (ev_oB (ev_e1 rfl (isi_tuple _))))).trans rfl) rfl).trans rfl
    | [_], _ =>
      rw [rw_not (brR_len (by simp)) (mdR_len (by simp))]
      exact (ev_guard (b := true) (by exact (ev_oOr (b := false) (ev_not (b := true) (ev_oB (ev_e1 rfl (isi_tuple _))))).trans rfl) rfl).trans rfl
    | [_, _], _ =>
      rw [rw_not (brR_len (by simp)) (mdR_len (by simp))]
      exact (ev_guard (b := true) (by exact (ev_oOr (b := false) (ev_not (b := true) (ev_oB (ev_e1 rfl (isi_tuple _))))).trans rfl) rfl).trans rfl
    | d0 :: d1 :: d2 :: d3 :: d4 :: r, _ =>
      rw [rw_not (brR_len (by simp)) (mdR_len (by simp))]
      refine (ev_guard (b := true) (by
        refine (ev_oOr (b := false) (ev_not (b := true) (ev_oB (ev_e1 rfl (isi_tuple _))))).trans ?_
        refine (ev_oOr (b := true) (ev_not (b := false) (ev_oB ((ev_ch (lo := 3) (hi := 4) (n := (d0 :: d1 :: d2 :: d3 :: d4 :: r).length) rfl rfl rfl).trans ?_)))).trans rfl
        rw [decide_eq_false (show ¬ ((d0 :: d1 :: d2 :: d3 :: d4 :: r).length : Int) ≤ 4 by simp only [List.length_cons]; omega), Bool.and_false]) rfl).trans rfl
    | [a, b, c], hq =>
      refine (ev_guard (b := !isSt a) (by
        refine (ev_oOr (b := false) (ev_not (b := true) (ev_oB (ev_e1 rfl (isi_tuple _))))).trans ?_
        exact (ev_oOr (b := false) (ev_not (b := true) (ev_oB rfl))).trans (ev_not (ev_oB (ev_e1 rfl (isi_st a))))) rfl).trans ?_
      cases a with
      | none | bool _ | int _ | list _ | tuple _ | dict _ => rw [rw_not (brR_hd (by intro h; unfold S at h; cases h)) (mdR_hd (by intro h; unfold S at h; cases h))]; rfl
      | str z =>
        have hz : PyData.strOk z = true := hq (.str z) (by simp)
        rw [if_neg (by simp [isSt])]
        refine (ev_if (b := z == Str.ofString "brought") (ev_oB (ev_e2 (a := .str z) (b := S "brought") rfl rfl (eqZ_str hz (by decide +kernel))))).trans ?_
        by_cases hb : z = Str.ofString "brought"
        · subst hb
          rw [if_pos (beq_self_eq_true _), rw_br (mdR_len (by simp))]
          refine ev_seqR ?_
          refine (ev_guard (b := !isFrom 0 ((X.ss.map Sr.d).length - 1) b) (by exact (ev_oOr (b := false) (ev_oB rfl)).trans (ev_not (ev_oB (ev_call (ds := [b, .int 0, .int ((X.ss.map Sr.d).length - 1)]) rfl rfl rfl)))) rfl).trans ?_
          rw [show (brR X (.tuple [.str (Str.ofString "brought"), b, c])).isSome = _ from brI, sl]
          cases isFrom 0 ((X.ss.length : Int) - 1) b with
          | false => rfl
          | true => exact ev_ret (ev_call (ds := [c, .int 0, .int 3000000000000000]) rfl rfl rfl)
        · rw [if_neg (by simpa using hb), rw_not (brR_ne hb) (mdR_len (by simp))]
          show sSeq sNil _ _ = _
          refine (ev_seq (ρ' := [some (.dat X.d), some (.dat (.tuple [.str z, b, c])), some (.dat (.int n)), none, none]) rfl).trans ?_
          exact (ev_guard (b := true) (by
            refine (ev_oOr (b := !PyData.eqv (.str z) (S "made")) (ev_oB (ev_e2 (a := .str z) (b := S "made") rfl rfl rfl))).trans ?_
            cases (!PyData.eqv (.str z) (S "made")) with
            | true => rfl
            | false => exact (ev_oOr (b := true) (ev_oB rfl)).trans rfl) rfl).trans rfl
    | [a, b, c, e], hq =>
      refine (ev_guard (b := !isSt a) (by
        refine (ev_oOr (b := false) (ev_not (b := true) (ev_oB (ev_e1 rfl (isi_tuple _))))).trans ?_
        exact (ev_oOr (b := false) (ev_not (b := true) (ev_oB rfl))).trans (ev_not (ev_oB (ev_e1 rfl (isi_st a))))) rfl).trans ?_
      cases a with
      | none | bool _ | int _ | list _ | tuple _ | dict _ => rw [rw_not (brR_hd (by intro h; unfold S at h; cases h)) (mdR_hd (by intro h; unfold S at h; cases h))]; rfl
      | str z =>
        have hz : PyData.strOk z = true := hq (.str z) (by simp)
        rw [if_neg (by simp [isSt])]
        refine (ev_if (b := z == Str.ofString "brought") (ev_oB (ev_e2 (a := .str z) (b := S "brought") rfl rfl (eqZ_str hz (by decide +kernel))))).trans ?_
        by_cases hb : z = Str.ofString "brought"
        · subst hb
          rw [if_pos (beq_self_eq_true _), rw_not (brR_len (by simp)) (mdR_hd (fun h => by injection h with h; exact absurd h (by decide +kernel)))]
          refine ev_seqR ?_
          exact (ev_guard (b := true) (by exact (ev_oOr (b := true) (ev_oB rfl)).trans rfl) rfl).trans rfl
        · rw [if_neg (by simpa using hb), rw_md (brR_len (by simp))]
          show sSeq sNil _ _ = _
          let R : Option LV → Rho := fun m => [some (.dat X.d), some (.dat (.tuple [.str z, b, c, e])), some (.dat (.int n)), m, none]
          refine (ev_seq (ρ' := R none) rfl).trans ?_
          by_cases hm : z = Str.ofString "made"
          · subst hm
            refine (ev_guard (b := !isFrom 0 ((X.ws.map Wy.d).length - 1) b) (by
              refine (ev_oOr (b := false) (ev_oB (ev_e2 (a := S "made") (b := S "made") rfl rfl (by show some (PyData.bool (!(Str.ofString "made" == Str.ofString "made"))) = _; rw [beq_self_eq_true]; rfl)))).trans ?_
              exact (ev_oOr (b := false) (ev_oB rfl)).trans (ev_not (ev_oB (ev_call (ds := [b, .int 0, .int ((X.ws.map Wy.d).length - 1)]) rfl rfl rfl)))) rfl).trans ?_
            rw [wl]
            cases hb1 : isFrom 0 ((X.ws.length : Int) - 1) b with
            | false => rw [show mdR X n (.tuple [.str (Str.ofString "made"), b, c, e]) = none from mdI0 (.inl hb1)]; rfl
            | true =>
              rw [if_neg (by simp)]
              obtain ⟨i, rfl, i0, i1⟩ := isFrom_int hb1
              obtain ⟨k, rfl⟩ : ∃ k : Nat, i = k := ⟨i.toNat, by omega⟩
              obtain ⟨y, hy⟩ : ∃ y, X.ws[k]? = some y := ⟨_, List.getElem?_eq_getElem (by omega)⟩
              refine (ev_guard (b := !isFrom 0 3000000000000000 c || !isTup e) (by
                refine (ev_oOr (b := !isFrom 0 3000000000000000 c) (ev_not (ev_oB (ev_call (ds := [c, .int 0, .int 3000000000000000]) rfl rfl rfl)))).trans ?_
                cases isFrom 0 3000000000000000 c with
                | false => rfl
                | true => exact ev_not (ev_oB (ev_e1 rfl (isi_tup e)))) rfl).trans ?_
              cases hc : isFrom 0 3000000000000000 c with
              | false => rw [show mdR X n (.tuple [.str (Str.ofString "made"), .int k, c, e]) = none from mdI0 (.inr hc)]; rfl
              | true =>
                obtain ⟨t, rfl, t0, t1⟩ := isFrom_int hc
                rw [show (mdR X n (.tuple [.str (Str.ofString "made"), .int k, .int t, e])).isSome = _ from mdI1 hy t0 t1]
                cases e with
                | none | bool _ | int _ | str _ | list _ | dict _ => rfl
                | tuple es =>
                  rw [if_neg (by simp [isTup])]
                  have pl : (y.ps.map Pt.d).length = y.ps.length := List.length_map ..
                  refine (ev_asg (d := .int (y.ps.map Pt.d).length) (ρ' := R (some (.dat (.int (y.ps.map Pt.d).length)))) (by
                    have := ev_cons (f := e2 ixD (e2 ixD (e2 ixD (eVar 0) (eC (.int 3))) (e2 ixD (eVar 1) (eC (.int 1)))) (eC (.int 1))) (g := aNil) (ρ := R none) (d := .tuple (y.ps.map Pt.d)) (ds := []) (ev_e2 (a := y.d) (b := .int 1) (ev_e2 (a := .tuple (X.ws.map Wy.d)) (b := .int k) rfl rfl (at_map hy)) rfl rfl) rfl
                    show eCall lenD _ _ = _
                    unfold eCall
                    exact (congrArg (fun o : Option (List D) => o.bind lenD) this).trans rfl) rfl).trans ?_
                  rw [pl]
                  refine (ev_guard (b := !((es.length : Int) == (y.ps.length : Int))) (by exact ev_oB rfl) rfl).trans ?_
                  by_cases hl : es.length = y.ps.length
                  · rw [hl, beq_self_eq_true, if_neg (by simp)]
                    refine ev_ret ?_
                    refine (ev_e2 (a := .list ((es.filter fun x => !isFrom 0 ((n : Int) - 1) x).map id)) (b := .list []) (ev_lcE (items := es) rfl (ev_lcIf (k := fun x => !isFrom 0 ((n : Int) - 1) x) (t := id) (by show 4 < 5; decide) es (fun x _ => ev_not (ev_oB (ev_call (ds := [x, .int 0, .int ((n : Int) - 1)]) rfl rfl rfl))) (fun x _ _ => rfl))) rfl rfl).trans ?_
                    rw [filt_empty]
                    show _ = some (PyData.bool (decide (es.length = y.ps.length) && es.all (isFrom 0 ((n : Int) - 1))))
                    rw [decide_eq_true hl, Bool.true_and]
                  · rw [show ((es.length : Int) == (y.ps.length : Int)) = false from beq_false_of_ne (by omega)]
                    show _ = some (Out.rt (.bool (decide (es.length = y.ps.length) && es.all (isFrom 0 ((n : Int) - 1)))))
                    rw [decide_eq_false hl]
                    rfl
          · rw [mdR_hd (by intro h; apply hm; injection h)]
            exact (ev_guard (b := true) (by exact (ev_oOr (b := true) (ev_oB ((ev_e2 (a := .str z) (b := S "made") rfl rfl rfl).trans (by show some (PyData.bool (!(z == Str.ofString "made"))) = _; rw [beq_false_of_ne hm]; rfl)))).trans rfl) rfl).trans rfl
end
end Dl
namespace Dl
open PySem PySem.Spec PyProof.Rows L2 Rt
def SRwL : Sem (Wd × List Tg × D) where
  enc := fun (X, ts, d) => [X.d, d, .list (ts.map Tg.d)]
  ok := fun (X, ts, d) => X.ok ∧ (∀ g ∈ ts, PyData.strOk g.k = true) ∧ gq d = true
  out := fun (X, ts, d) => wD (wrd X ts d)
  fn := fun {x y} _ _ e => by
    obtain ⟨X, ts, r⟩ := x
    obtain ⟨X', ts', r'⟩ := y
    injection e with e1 e
    injection e with e3 e
    injection e with e2 e
    injection e2 with e2
    cases Wd.inj e1
    cases map_inj Tg.inj e2
    cases e3
    rfl
theorem fst_mod {n s p : Int} (p0 : 0 ≤ p) (p1 : p < n) : (s + (p - s) % n) % n = p := by
  rw [Int.add_emod, Int.emod_emod_of_dvd _ (Int.dvd_refl n), ← Int.add_emod, show s + (p - s) = p by omega, Int.emod_eq_of_lt p0 p1]
theorem fst_iff {n s p t : Int} (p0 : 0 ≤ p) (p1 : p < n) : (decide (t < s + (p - s) % n) || !((t - (s + (p - s) % n)) % n == 0)) = !(decide (t ≥ s) && (t % n == p)) := by
  have n0 : 0 < n := by omega
  have q0 := Int.emod_nonneg (p - s) (show n ≠ 0 by omega)
  have q1 := Int.emod_lt_of_pos (p - s) n0
  have fm := fst_mod (s := s) p0 p1
  generalize (p - s) % n = q at *
  by_cases hm : t % n = p
  · have h0 : (t - (s + q)) % n = 0 := Int.emod_eq_emod_iff_emod_sub_eq_zero.mp (by rw [hm, fm])
    rw [h0, hm]
    by_cases ht : t ≥ s
    · have : ¬ t < s + q := fun h => by
        have hd : n ∣ (s + q) - t := by
          have := Int.dvd_neg.mpr (Int.dvd_of_emod_eq_zero h0)
          rwa [Int.neg_sub] at this
        have := Int.le_of_dvd (by omega) hd
        omega
      simp [this, ht]
    · have : t < s + q := by omega
      simp [this, ht]
  · have h0 : (t - (s + q)) % n ≠ 0 := fun h => hm (by rw [Int.emod_eq_emod_iff_emod_sub_eq_zero.mpr h, fm])
    rw [show (t % n == p) = false from beq_false_of_ne hm, show ((t - (s + q)) % n == 0) = false from beq_false_of_ne h0]
    simp
def rwlR (X : Wd) (j : Nat) (y : Wy) (t : Int) (ns : List Int) (ts : List Tg) (x z : Option LV) : Rho := [some (.dat X.d), some (.dat (Rw.md j y t ns).d), some (.dat (.list (ts.map Tg.d))), none, some (.dat y.d), x, z]
noncomputable def rwlB : Rho → Option Out := sIf (oNot (oB (eCall (gN 3 SFit.f) (aCons (eVar 5) (aCons (e2 ixD (eVar 2) (eVar 6)) (aCons (e2 ixD (eVar 1) (eC (.int 2))) aNil)))))) (sRet (eC (S "part"))) sNil
theorem rwl_for {X : Wd} (hX : X.ok) {j : Nat} {y : Wy} {t : Int} {ns : List Int} {ts : List Tg} (ho : ∀ g ∈ ts, PyData.strOk g.k = true) : ∀ (zs : List (Pt × Int)) (x z : Option LV), (∀ q ∈ zs, PyData.strOk q.1.k = true ∧ 0 ≤ q.2 ∧ q.2 ≤ (ts.length : Int) - 1) →
    (zs.all (fun z => fitB z.1 (tgAt ts z.2) t) = true ∧ ∃ x' z', forGo (.tp (.cons (.nm 5) (.cons (.nm 6) .nil))) rwlB (zs.map fun q => .tuple [q.1.d, .int q.2]) (rwlR X j y t ns ts x z) = some (.nx (rwlR X j y t ns ts x' z'))) ∨ (zs.all (fun z => fitB z.1 (tgAt ts z.2) t) = false ∧ forGo (.tp (.cons (.nm 5) (.cons (.nm 6) .nil))) rwlB (zs.map fun q => .tuple [q.1.d, .int q.2]) (rwlR X j y t ns ts x z) = some (.rt (S "part")))
  | [], x, z, _ => .inl ⟨rfl, x, z, rfl⟩
  | (p, i) :: zs, x, z, hz => by
    obtain ⟨hk, i0, i1⟩ := hz (p, i) (by simp)
    obtain ⟨k, rfl⟩ : ∃ k : Nat, i = k := ⟨i.toNat, by omega⟩
    have i1 : (k : Int) ≤ (ts.length : Int) - 1 := i1
    obtain ⟨q, hq⟩ : ∃ q, ts[k]? = some q := ⟨_, List.getElem?_eq_getElem (by omega)⟩
    have eq : tgAt ts k = q := by
      show (ts[k]?).getD _ = q
      rw [hq]
      rfl
    have e1 : bindP (.tp (.cons (.nm 5) (.cons (.nm 6) .nil))) (.tuple [p.d, .int k]) (rwlR X j y t ns ts x z) = some (rwlR X j y t ns ts (some (.dat p.d)) (some (.dat (.int k)))) := rfl
    have eb : rwlB (rwlR X j y t ns ts (some (.dat p.d)) (some (.dat (.int k)))) = if (!fitB p q t) = true then some (.rt (S "part")) else some (.nx (rwlR X j y t ns ts (some (.dat p.d)) (some (.dat (.int k))))) :=
      ev_ifR (ev_not (ev_oB (ev_call (ds := [p.d, q.d, .int t]) (ev_cons rfl (ev_cons (ev_e2 (a := .list (ts.map Tg.d)) (b := .int k) rfl rfl (at_map hq)) rfl)) rfl (Sem.of (S := SFit) (x := (p, q, t)) ⟨hk, ho q (List.mem_of_getElem? hq)⟩))))
    have ea : ((p, (k : Int)) :: zs).all (fun z => fitB z.1 (tgAt ts z.2) t) = (fitB p q t && zs.all (fun z => fitB z.1 (tgAt ts z.2) t)) := by
      rw [List.all_cons, ← eq]
    rw [ea]
    cases hf : fitB p q t with
    | false =>
      rw [hf] at eb
      exact .inr ⟨rfl, ev_forR e1 eb⟩
    | true =>
      rw [hf] at eb
      have ih := rwl_for hX (j := j) (y := y) (t := t) (ns := ns) ho zs (some (.dat p.d)) (some (.dat (.int k))) fun q hq => hz q (by simp [hq])
      have ef : forGo (.tp (.cons (.nm 5) (.cons (.nm 6) .nil))) rwlB (((p, (k : Int)) :: zs).map fun q => .tuple [q.1.d, .int q.2]) (rwlR X j y t ns ts x z) = forGo (.tp (.cons (.nm 5) (.cons (.nm 6) .nil))) rwlB (zs.map fun q => .tuple [q.1.d, .int q.2]) (rwlR X j y t ns ts (some (.dat p.d)) (some (.dat (.int k)))) := ev_forC e1 eb
      rw [ef]
      rw [Bool.true_and]
      exact ih
section
variable {P : Program} {w : World} {K : PySem.W.Frag} {mg : Str → Option Value} {base : Heap}
theorem ok_rwl {f : Addr} {fd : FuncData} (F : Fun K "_law_row_word" "_law_row_word" s_law_row_word f fd) (m_len : mg "len" = none) (m_int : mg "int" = none) (m_zip : mg "zip" = none) (C__law_is_row : Cl P w K mg base 2 "_law_is_row" ["_law_world_here", "_law_row", "_law_ahead"] (spD 3 SIsR.f)) (C__law_first : Cl P w K mg base 1 "_law_first" ["_law_world_here", "_law_number"] (spD 2 SFst.f)) (C__law_fits : Cl P w K mg base 1 "_law_fits" ["_law_part_here", "_law_thing", "_law_moment"] (spD 3 SFit.f)) : FnOk P w K mg base CX0 3 f fd ["_law_world_here", "_law_row", "_law_found"] (spD 3 SRwL.f) := by
  refine okFn F sc_law_row_word rfl fun cdv A outer s H E hr => ⟨_, (dSs_cons (dS_if (dT_not (dT_val (dE_cl C__law_is_row (hr.mono (by omega)) (by rfl) (dA_cons (dE_var (μ := true) (pv 0)) (dA_cons (dE_var (μ := true) (pv 1)) (dA_cons (dE_callB c_len (by rfl) m_len (by decide +kernel) (dA_cons (dE_var (μ := true) (pv 2)) (dA_nil (μ := true)))) (dA_nil (μ := true))))))))
    (dSs_one (dS_ret (ps_ret (dE_c (μ := true) pe_str))))
    dSs_nil)
  (dSs_cons (dS_if (dT_cmp (o_eq hr.units) (dE_ix (dE_var (μ := true) (pv 1)) (dE_c (μ := true) pe_int)) (dE_c (μ := true) pe_str) (nomark _))
    (dSs_cons (dS_asg (K := K) (p := .nm 3) (ps_set (i := 3) sc_law_row_word.nd rfl (.inl rfl) (dE_cl C__law_first (hr.mono (by omega)) (by rfl) (dA_cons (dE_var (μ := true) (pv 0)) (dA_cons (dE_ix (dE_var (μ := true) (pv 1)) (dE_c (μ := true) pe_int)) (dA_nil (μ := true)))))))
  (dSs_one (dS_ret (ps_ret (dE_ix (dE_lst (dA_cons (dE_c (μ := true) pe_non) (dA_cons (dE_c (μ := true) pe_str) (dA_nil (μ := true))))) (dE_callTy c_int (by rfl) m_int (by decide +kernel) (dA_cons (dE_or (dE_cmp o_lt (dE_ix (dE_var (μ := true) (pv 1)) (dE_c (μ := true) pe_int)) (dE_var (μ := true) (pv 3)) (nomark _)) (dE_one (dE_cmp (o_ne hr.units) (dE_op o_mod (dE_op o_sub (dE_ix (dE_var (μ := true) (pv 1)) (dE_c (μ := true) pe_int)) (dE_var (μ := true) (pv 3))) (dE_ix (dE_var (μ := true) (pv 0)) (dE_c (μ := true) pe_int))) (dE_c (μ := true) pe_int) (nomark _)))) (dA_nil (μ := true)))))))))
    dSs_nil)
  (dSs_cons (dS_asg (K := K) (p := .nm 4) (ps_set (i := 4) sc_law_row_word.nd rfl (.inl rfl) (dE_ix (dE_ix (dE_var (μ := true) (pv 0)) (dE_c (μ := true) pe_int)) (dE_ix (dE_var (μ := true) (pv 1)) (dE_c (μ := true) pe_int)))))
  (dSs_cons (dS_if (dT_cmp (o_nin (u65 hr)) (dE_op o_mod (dE_ix (dE_var (μ := true) (pv 1)) (dE_c (μ := true) pe_int)) (dE_ix (dE_var (μ := true) (pv 0)) (dE_c (μ := true) pe_int))) (dE_ix (dE_var (μ := true) (pv 4)) (dE_c (μ := true) pe_int)) (by rfl))
    (dSs_one (dS_ret (ps_ret (dE_c (μ := true) pe_str))))
    dSs_nil)
  (dSs_cons (dS_for (K := K) (p := (.tp (.cons (.nm 5) (.cons (.nm 6) .nil)))) (ps_for PassesOwn.never rfl (dI_zip (by rfl) m_zip (dA_cons (dE_ix (dE_var (μ := true) (pv 4)) (dE_c (μ := true) pe_int)) (dA_cons (dE_ix (dE_var (μ := true) (pv 1)) (dE_c (μ := true) pe_int)) (dA_nil (μ := true))))) (pg_tup (by rfl) (pgs_cons (pg_name (i := 5) sc_law_row_word.nd rfl (.inl rfl)) (pgs_cons (pg_name (i := 6) sc_law_row_word.nd rfl (.inl rfl)) pgs_nil)))
    (dSs_one (dS_if (dT_not (dT_val (dE_cl C__law_fits (hr.mono (by omega)) (by rfl) (dA_cons (dE_var (μ := true) (pv 5)) (dA_cons (dE_ix (dE_var (μ := true) (pv 2)) (dE_var (μ := true) (pv 6))) (dA_cons (dE_ix (dE_var (μ := true) (pv 1)) (dE_c (μ := true) pe_int)) (dA_nil (μ := true))))))))
    (dSs_one (dS_ret (ps_ret (dE_c (μ := true) pe_str))))
    dSs_nil))))
  (dSs_one (dS_ret (ps_ret (dE_c (μ := true) pe_non))))))))), fun ds d l e => ?_⟩
  obtain ⟨⟨X, ts, d⟩, ⟨hX, ho, hq⟩, rfl, rfl⟩ := Sem.get e
  refine ⟨.rt (wD (wrd X ts d)), ?_, rfl⟩
  have tl : (ts.map Tg.d).length = ts.length := List.length_map ..
  have er := Sem.of (S := SIsR) (x := (X, d, ts.length)) ⟨hX, hq⟩
  refine (ev_guard (b := !(rwOf X ts.length d).isSome) (by exact ev_not (ev_oB (ev_call (ds := [X.d, d, .int (ts.map Tg.d).length]) rfl rfl (by rw [tl]; exact er)))) rfl).trans ?_
  unfold wrd
  cases hb : brR X d with
  | some q =>
    obtain ⟨j, r, t⟩ := q
    obtain ⟨rfl, g, _⟩ := brR_get hb
    rw [show (rwOf X ts.length (Rw.br j r t).d).isSome = true by unfold rwOf; rw [hb]; rfl, if_neg (by simp)]
    refine (ev_if (b := true) (ev_oB (ev_e2 (a := S "brought") (b := S "brought") rfl rfl ((eq_ok (by decide +kernel) (by decide +kernel)).trans (congrArg (fun b => some (PyData.bool b)) (by decide +kernel)))))).trans ?_
    have hr := hX.ss r (List.mem_of_getElem? g)
    have n1 := hX.n1
    refine ev_seqR ?_
    let F0 : Int := r.s + (r.p - r.s) % X.n
    refine (ev_asg (d := .int F0) (ρ' := [some (.dat X.d), some (.dat (Rw.br j r t).d), some (.dat (.list (ts.map Tg.d))), some (.dat (.int F0)), none, none, none]) (ev_call (ds := [X.d, .int j]) rfl rfl (Sem.of (S := SFst) (x := (X, j, r)) ⟨hX, g⟩)) rfl).trans ?_
    refine ev_ret ?_
    have eo : ∀ {g1 g2 : EF} {ρ : Rho}, g1 ρ = some (.bool (decide (t < F0))) → g2 ρ = some (.bool (!((t - F0) % X.n == 0))) → eOr g1 g2 ρ = some (.bool (!(decide (t ≥ r.s) && (t % X.n == r.p)))) := fun {g1 g2 ρ} h1 h2 => by
      unfold eOr
      rw [h1, ← fst_iff hr.p0 hr.p1]
      cases decide (t < F0) with
      | true => rfl
      | false => exact h2
    have ei := ev_cons (f := eOr (e2 ltD (e2 ixD (eVar 1) (eC (.int 2))) (eVar 3)) (e2 neD (e2 modD (e2 subD (e2 ixD (eVar 1) (eC (.int 2))) (eVar 3)) (e2 ixD (eVar 0) (eC (.int 0)))) (eC (.int 0)))) (g := aNil) (ρ := [some (.dat X.d), some (.dat (Rw.br j r t).d), some (.dat (.list (ts.map Tg.d))), some (.dat (.int F0)), none, none, none]) (eo rfl (ev_e2 (a := .int ((t - F0) % X.n)) (b := .int 0) (ev_e2 (a := .int (t - F0)) (b := .int X.n) rfl rfl (if_pos (by omega))) rfl rfl)) rfl
    refine ev_e2 (a := .list [.none, S "moment"]) (b := .int (if (!(decide (t ≥ r.s) && (t % X.n == r.p))) = true then 1 else 0)) rfl ?_ ?_
    · show eCall intD _ _ = _
      unfold eCall
      exact (congrArg (fun o : Option (List D) => o.bind intD) ei).trans rfl
    · show _ = some (wD (if (decide (t ≥ r.s) && (t % X.n == r.p)) = true then none else some (Str.ofString "moment")))
      cases (decide (t ≥ r.s) && (t % X.n == r.p)) <;> rfl
  | none =>
    show _ = some (Out.rt (wD (match mdR X ts.length d with
      | none => some (Str.ofString "row")
      | some (_, y, t, ns) => if y.hs.any (· == t % X.n) = true then (if (y.ps.zip ns).all (fun z => fitB z.1 (tgAt ts z.2) t) = true then none else some (Str.ofString "part")) else some (Str.ofString "moment"))))
    rw [rw_md hb]
    cases hm : mdR X ts.length d with
    | none => rfl
    | some q =>
      obtain ⟨j, y, t, ns⟩ := q
      obtain ⟨rfl, ⟨g, nl, hn⟩, _⟩ := mdR_get hm
      have hy := hX.ws y (List.mem_of_getElem? g)
      have n1 := hX.n1
      rw [if_neg (by simp)]
      refine (ev_if (b := false) (ev_oB (ev_e2 (a := S "made") (b := S "brought") rfl rfl ((eq_ok (by decide +kernel) (by decide +kernel)).trans (congrArg (fun b => some (PyData.bool b)) (by decide +kernel)))))).trans ?_
      show sSeq sNil _ _ = _
      refine (ev_seq (ρ' := [some (.dat X.d), some (.dat (Rw.md j y t ns).d), some (.dat (.list (ts.map Tg.d))), none, none, none, none]) rfl).trans ?_
      refine (ev_asg (d := y.d) (ρ' := rwlR X j y t ns ts none none) (ev_e2 (a := .tuple (X.ws.map Wy.d)) (b := .int j) rfl rfl (at_map g)) rfl).trans ?_
      refine (ev_guard (b := !y.hs.any (· == t % X.n)) (by
        refine ev_oB (ev_e2 (a := .int (t % X.n)) (b := .tuple (y.hs.map .int)) (ev_e2 (a := .int t) (b := .int X.n) rfl rfl (if_pos (by omega))) rfl ?_)
        rw [nin_tup (ok_int _).1 (okT fun d hd => by
          obtain ⟨i, _, rfl⟩ := List.mem_map.mp hd
          exact ok_int i)]
        congr 2
        rw [List.any_map]
        rfl) rfl).trans ?_
      show _ = some (Out.rt (wD (if y.hs.any (· == t % X.n) = true then (if (y.ps.zip ns).all (fun z => fitB z.1 (tgAt ts z.2) t) = true then none else some (Str.ofString "part")) else some (Str.ofString "moment"))))
      cases hh : y.hs.any (· == t % X.n) with
      | false => rfl
      | true =>
        rw [if_neg (by simp), if_pos rfl]
        have hz : ∀ q ∈ y.ps.zip ns, PyData.strOk q.1.k = true ∧ 0 ≤ q.2 ∧ q.2 ≤ (ts.length : Int) - 1 := fun q hq => by
          have hz2 := List.of_mem_zip hq
          exact ⟨(hX.ks _ (hy.ps q.1 hz2.1).k).1, hn q.2 hz2.2⟩
        have ez : zpGo (y.ps.map Pt.d) (ns.map PyData.int) = (y.ps.zip ns).map fun x => .tuple [x.1.d, .int x.2] := zp_map _ _
        rcases rwl_for hX (j := j) (y := y) (t := t) (ns := ns) ho (y.ps.zip ns) none none hz with ⟨ha, x', z', e1⟩ | ⟨ha, e1⟩
        · rw [ha]
          exact (ev_seq (ev_forS (items := zpGo (y.ps.map Pt.d) (ns.map PyData.int)) rfl (by rw [ez]; exact e1))).trans rfl
        · rw [ha]
          exact (ev_seqR (ev_forS (items := zpGo (y.ps.map Pt.d) (ns.map PyData.int)) rfl (by rw [ez]; exact e1))).trans rfl
end
end Dl
namespace Dl
open PySem PySem.Spec PyProof.Rows L2 Rt
def SLok : Sem (Wd × D) where
  enc := fun (X, d) => [X.d, d]
  ok := fun (X, d) => X.ok ∧ gq d = true
  out := fun (X, d) => .list [.list ((tldP X d).map Tg.d), fltP X d]
  fn := fun {x y} _ _ e => by
    obtain ⟨X, d⟩ := x
    obtain ⟨X', d'⟩ := y
    injection e with e1 e
    injection e with e2 e
    cases Wd.inj e1
    cases e2
    rfl
theorem rgD_succ (lo : Int) (n : Nat) : rgD lo (n + 1) = .int lo :: rgD (lo + 1) n := by
  unfold rgD
  rw [List.range_succ_eq_map, List.map_cons, List.map_map]
  congr 1
  · simp
  · refine List.map_congr_left fun i _ => ?_
    show PyData.int (lo + ((i + 1 : Nat) : Int)) = PyData.int (lo + 1 + (i : Int))
    congr 1
    omega
noncomputable def lokB : Rho → Option Out := sSeq (sAsg (.nm 4) (eStr (eCall (gN 3 SRwL.f) (aCons (eVar 0) (aCons (e2 ixD (eVar 1) (eVar 3)) (aCons (eOwn 2) aNil)))))) (sSeq (sIf (oB (e2 noND (eVar 4) (eC .none))) (sRet (eLst (aCons (eOwn 2) (aCons (eTup (aCons (eVar 3) (aCons (eVar 4) aNil))) aNil)))) sNil) (sApp 2 (aCons (eStr (eCall (gN 3 SBrn.f) (aCons (eVar 0) (aCons (e2 ixD (eVar 1) (eVar 3)) (aCons (eOwn 2) aNil))))) aNil)))
def lokR (X : Wd) (d : D) (ts : List Tg) (x y : Option LV) : Rho := [some (.dat X.d), some (.dat d), some (.own (ts.map Tg.d)), x, y]
theorem lok_for {X : Wd} (hX : X.ok) {D0 : List D} (hq : ∀ d ∈ D0, gq d = true) : ∀ (ds : List D) (k : Nat) (ts : List Tg) (x y : Option LV), D0.drop k = ds → (∀ g ∈ ts, PyData.strOk g.k = true) → ts.length + ds.length ≤ 1000 →
    (∃ q, (walkP X k ts ds).1 = some q ∧ forGo (.nm 3) lokB (rgD k ds.length) (lokR X (.tuple D0) ts x y) = some (.rt (.list [.list ((walkP X k ts ds).2.map Tg.d), fltD (some q)]))) ∨ ((walkP X k ts ds).1 = none ∧ ∃ x' y', forGo (.nm 3) lokB (rgD k ds.length) (lokR X (.tuple D0) ts x y) = some (.nx (lokR X (.tuple D0) (walkP X k ts ds).2 x' y')))
  | [], k, ts, x, y, _, _, _ => .inr ⟨rfl, x, y, rfl⟩
  | d :: ds, k, ts, x, y, hD, hs, hl => by
    rw [List.length_cons] at hl ⊢
    have hk : D0[k]? = some d := by
      have := congrArg (fun l : List D => l[0]?) hD
      simpa using this
    have hD2 : D0.drop (k + 1) = ds := by
      have := congrArg (List.drop 1) hD
      rwa [List.drop_drop] at this
    have ei : e2 ixD (eVar 1) (eVar 3) (lokR X (.tuple D0) ts (some (.dat (.int k))) y) = some d := ev_e2 (a := .tuple D0) (b := .int k) rfl rfl (atI_nat hk)
    have e1 : bindP (.nm 3) (.int k) (lokR X (.tuple D0) ts x y) = some (lokR X (.tuple D0) ts (some (.dat (.int k))) y) := rfl
    have ew := Sem.of (S := SRwL) (x := (X, ts, d)) ⟨hX, hs, hq d (List.mem_of_getElem? hk)⟩
    have nw : nl (wD (wrd X ts d)) = true := by cases wrd X ts d <;> rfl
    have ea : lokB (lokR X (.tuple D0) ts (some (.dat (.int k))) y) = _ := ev_asg (d := wD (wrd X ts d)) (ρ' := lokR X (.tuple D0) ts (some (.dat (.int k))) (some (.dat (wD (wrd X ts d))))) (ev_eStr (ev_call (ds := [X.d, d, .list (ts.map Tg.d)]) (ev_cons rfl (ev_cons ei rfl)) rfl ew) nw) rfl
    rw [rgD_succ]
    cases hw : wrd X ts d with
    | some wv =>
      have ewk : walkP X k ts (d :: ds) = (some (k, wv), ts) := by
        unfold walkP
        rw [hw]
      rw [ewk]
      refine .inl ⟨(k, wv), rfl, ev_forR e1 (ea.trans ?_)⟩
      rw [hw]
      exact (ev_guard (b := true) rfl rfl).trans rfl
    | none =>
      obtain ⟨r, hr⟩ := wrd_rw hw
      obtain ⟨rfl, ro⟩ := rwOf_ok hr
      have ewk : walkP X k ts (r.d :: ds) = walkP X (k + 1) (ts ++ [tgOf ts r]) ds := by
        conv => lhs; unfold walkP
        rw [hw]
        show (match rwOf X ts.length r.d with | some r => walkP X (k + 1) (ts ++ [tgOf ts r]) ds | none => (none, ts)) = _
        rw [hr]
      have et := Sem.of (S := SBrn) (x := (X, ts, r)) ⟨hX, ro⟩
      have eb : lokB (lokR X (.tuple D0) ts (some (.dat (.int k))) y) = some (.nx (lokR X (.tuple D0) (ts ++ [tgOf ts r]) (some (.dat (.int k))) (some (.dat .none)))) := by
        rw [ea, hw]
        refine (ev_seq (ρ' := lokR X (.tuple D0) ts (some (.dat (.int k))) (some (.dat .none))) rfl).trans ?_
        have ei2 : e2 ixD (eVar 1) (eVar 3) (lokR X (.tuple D0) ts (some (.dat (.int k))) (some (.dat .none))) = some r.d := ev_e2 (a := .tuple D0) (b := .int k) rfl rfl (atI_nat hk)
        have ec : aCons (eStr (eCall (gN 3 SBrn.f) (aCons (eVar 0) (aCons (e2 ixD (eVar 1) (eVar 3)) (aCons (eOwn 2) aNil))))) aNil (lokR X (.tuple D0) ts (some (.dat (.int k))) (some (.dat .none))) = some [(tgOf ts r).d] := ev_cons (ev_eStr (ev_call (ds := [X.d, r.d, .list (ts.map Tg.d)]) (ev_cons rfl (ev_cons ei2 rfl)) rfl et) rfl) rfl
        show (aCons (eStr (eCall (gN 3 SBrn.f) (aCons (eVar 0) (aCons (e2 ixD (eVar 1) (eVar 3)) (aCons (eOwn 2) aNil))))) aNil (lokR X (.tuple D0) ts (some (.dat (.int k))) (some (.dat .none)))).bind _ = _
        rw [ec]
        show (if (ts.map Tg.d).length < sizeLine then _ else none) = _
        rw [if_pos (Nat.lt_of_lt_of_le (show (ts.map Tg.d).length < 1001 by rw [List.length_map]; omega) (by decide))]
        show some (Out.nx [some (LV.dat X.d), some (.dat (.tuple D0)), some (.own (ts.map Tg.d ++ [(tgOf ts r).d])), _, _]) = _
        unfold lokR
        rw [List.map_append]
        rfl
      have ih := lok_for hX hq ds (k + 1) (ts ++ [tgOf ts r]) (some (.dat (.int k))) (some (.dat .none)) hD2 (fun g hg => by
        rcases List.mem_append.mp hg with hg | hg
        · exact hs g hg
        · rw [List.mem_singleton.mp hg]; exact tgOf_ok hX ro) (by rw [List.length_append, List.length_singleton]; omega)
      rw [ewk]
      have ef : forGo (.nm 3) lokB (.int (k : Int) :: rgD ((k : Int) + 1) ds.length) (lokR X (.tuple D0) ts x y) = forGo (.nm 3) lokB (rgD ((k + 1 : Nat) : Int) ds.length) (lokR X (.tuple D0) (ts ++ [tgOf ts r]) (some (.dat (.int k))) (some (.dat .none))) := ev_forC e1 eb
      rw [ef]
      exact ih
section
variable {P : Program} {w : World} {K : PySem.W.Frag} {mg : Str → Option Value} {base : Heap}
theorem ok_lok {f : Addr} {fd : FuncData} (F : Fun K "_law_looked" "_law_looked" s_law_looked f fd) (m_isinstance : mg "isinstance" = none) (m_tuple : mg "tuple" = none) (m_range : mg "range" = none) (m_len : mg "len" = none) (C__law_row_word : Cl P w K mg base 3 "_law_row_word" ["_law_world_here", "_law_row", "_law_found"] (spD 3 SRwL.f)) (C__law_born : Cl P w K mg base 1 "_law_born" ["_law_world_here", "_law_row", "_law_found"] (spD 3 SBrn.f)) : FnOk P w K mg base CX0 4 f fd ["_law_world_here", "_law_thing"] (spD 2 SLok.f) := by
  refine okFn F sc_law_looked rfl fun cdv A outer s H E hr => ⟨_, (dSs_cons (dS_if (PW.pt (dW_or (dT_not (dT_val (dE_isi (dE_var (μ := true) (pv 1)) (pe_bltn (v := .ty "tuple") (by rfl) m_tuple (by decide +kernel) rfl) (by rfl) m_isinstance (by decide +kernel)))) (dW_or1 (dT_cmp (o_eqZ hr.units) (dE_var (μ := true) (pv 1)) (dE_tup (dA_nil (μ := true))) (nomark _)))))
    (dSs_one (dS_ret (ps_ret (dE_lst (dA_cons (dE_lst (dA_nil (μ := true))) (dA_cons (dE_tup (dA_cons (dE_neg (dE_c (μ := true) pe_int)) (dA_cons (dE_c (μ := true) pe_str) (dA_nil (μ := true))))) (dA_nil (μ := true))))))))
    dSs_nil)
  (dSs_cons (dS_own (ps_set (i := 2) sc_law_looked.nd rfl (.inl rfl) (oE_lst (dA_nil (μ := true)))))
  (dSs_cons (dS_for (K := K) (p := (.nm 3)) (ps_for PassesOwn.never rfl (dI_ran1 (by rfl) m_range (dA_cons (dE_callB c_len (by rfl) m_len (by decide +kernel) (dA_cons (dE_var (μ := true) (pv 1)) (dA_nil (μ := true)))) (dA_nil (μ := true)))) (pg_name (i := 3) sc_law_looked.nd rfl (.inl rfl))
    (dSs_cons (dS_asg (K := K) (p := .nm 4) (ps_set (i := 4) sc_law_looked.nd rfl (.inl rfl) (dE_str (dE_cl C__law_row_word (hr.mono (by omega)) (by rfl) (dA_cons (dE_var (μ := false) (pv 0)) (dA_cons (dE_ix (dE_var (μ := false) (pv 1)) (dE_var (μ := false) (pv 3))) (dA_cons (dE_own (pv 2)) (dA_nil (μ := false)))))))))
  (dSs_cons (dS_if (dT_cmp o_isnot (dE_var (μ := true) (pv 4)) (dE_c (μ := true) pe_non) (nomark _))
    (dSs_one (dS_ret (ps_ret (dE_lst (dA_cons (dE_own (pv 2)) (dA_cons (dE_tup (dA_cons (dE_var (μ := false) (pv 3)) (dA_cons (dE_var (μ := false) (pv 4)) (dA_nil (μ := false))))) (dA_nil (μ := false))))))))
    dSs_nil)
  (dSs_one (dS_app (K := K) (ps_expr (pe_bm PySem.F.plainAttrs_list PySem.F.slot_list_append PySem.F.type_list_append mt_append (pv 2) (dA_cons (dE_str (dE_cl C__law_born (hr.mono (by omega)) (by rfl) (dA_cons (dE_var (μ := false) (pv 0)) (dA_cons (dE_ix (dE_var (μ := false) (pv 1)) (dE_var (μ := false) (pv 3))) (dA_cons (dE_own (pv 2)) (dA_nil (μ := false))))))) dA_nil)))))))))
  (dSs_one (dS_ret (ps_ret (dE_lst (dA_cons (dE_own (pv 2)) (dA_cons (dE_c (μ := false) pe_non) (dA_nil (μ := false))))))))))), fun ds d l e => ?_⟩
  obtain ⟨⟨X, d⟩, ⟨hX, hq⟩, rfl, rfl⟩ := Sem.get e
  refine ⟨.rt (.list [.list ((tldP X d).map Tg.d), fltP X d]), ?_, rfl⟩
  cases d with
  | none | bool _ | int _ | str _ | list _ | dict _ => exact (ev_guard (b := true) (by exact (ev_oOr (b := true) (ev_not (b := false) (ev_oB (ev_e1 rfl (isi_tuple _))))).trans rfl) (d := .list [.list [], .tuple [.int (-1), S "paper"]]) rfl).trans rfl
  | tuple ds =>
    cases ds with
    | nil => exact (ev_guard (b := true) (by exact (ev_oOr (b := false) (ev_not (b := true) (ev_oB (ev_e1 rfl (isi_tuple _))))).trans rfl) (d := .list [.list [], .tuple [.int (-1), S "paper"]]) rfl).trans rfl
    | cons d0 ds =>
      refine (ev_guard (b := false) (by exact (ev_oOr (b := false) (ev_not (b := true) (ev_oB (ev_e1 rfl (isi_tuple _))))).trans rfl) (d := .list [.list [], .tuple [.int (-1), S "paper"]]) rfl).trans ?_
      have hl := (gq.two hq).1
      refine (ev_seq (ρ' := lokR X (.tuple (d0 :: ds)) [] none none) rfl).trans ?_
      have ei : itG ran1D (aCons (eCall lenD (aCons (eVar 1) aNil)) aNil) (lokR X (.tuple (d0 :: ds)) [] none none) = some (rgD 0 (d0 :: ds).length) := ev_itG (ds := [.int (d0 :: ds).length]) rfl (ran1_ok (j := (d0 :: ds).length) (by omega) (by omega))
      rcases lok_for hX (gq.two hq).2 (d0 :: ds) 0 [] none none rfl (fun g h => nomatch h) (by simpa using hl) with ⟨q, e1, e2⟩ | ⟨e1, x', y', e2⟩
      · refine (ev_seqR (ev_forS ei e2)).trans ?_
        show _ = some (Out.rt (.list [.list ((walkP X 0 [] (d0 :: ds)).2.map Tg.d), fltD (walkP X 0 [] (d0 :: ds)).1]))
        rw [e1]
      · refine (ev_seq (ev_forS ei e2)).trans ?_
        show _ = some (Out.rt (.list [.list ((walkP X 0 [] (d0 :: ds)).2.map Tg.d), fltD (walkP X 0 [] (d0 :: ds)).1]))
        rw [e1]
        rfl
end
end Dl
namespace Dl
open PySem PySem.Spec PyProof.Rows L2 Rt
/-! ### what is drawn is a world -/
theorem cho {α : Type} {f : α → D} {P : α → Prop} : ∀ {ds : List D}, (∀ d ∈ ds, ∃ x, d = f x ∧ P x) → ∃ xs : List α, ds = xs.map f ∧ ∀ x ∈ xs, P x
  | [], _ => ⟨[], rfl, fun x h => nomatch h⟩
  | d :: ds, h => by
    obtain ⟨x, rfl, px⟩ := h d (by simp)
    obtain ⟨xs, rfl, pxs⟩ := cho (ds := ds) fun d hd => h d (by simp [hd])
    exact ⟨x :: xs, rfl, fun y hy => by
      rcases List.mem_cons.mp hy with rfl | hy
      · exact px
      · exact pxs y hy⟩
theorem name_str {k : D} (h : isName k = true) : ∃ z, k = .str z ∧ PyData.strOk z = true ∧ z.length ≤ 20 := by
  obtain ⟨z, rfl⟩ := isName_str h
  have h := Bool.and_eq_true_iff.mp (show (decide (1 ≤ (z.length : Int)) && decide ((z.length : Int) ≤ 8) && z.cps.toList.all fun c => decide (c ∈ LET)) = true from h)
  have h8 := of_decide_eq_true (Bool.and_eq_true_iff.mp h.1).2
  have hl := List.all_eq_true.mp h.2
  have lt : ∀ c ∈ LET, c < 1114112 := by decide +kernel
  exact ⟨z, rfl, strOk_iff.mpr fun c hc => lt c (of_decide_eq_true (hl c hc)), by omega⟩
theorem mem_str {zs : List Str} {k : D} (h : k ∈ zs.map PyData.str) : ∃ z, k = .str z ∧ z ∈ zs := by
  obtain ⟨z, hz, rfl⟩ := List.mem_map.mp h
  exact ⟨z, rfl, hz⟩
theorem src_X {n : Int} {zs : List Str} {d : D} (h : SrcP n (zs.map PyData.str) d) : ∃ x : Sr, d = x.d ∧ x.ok n zs := by
  obtain ⟨k, a, pl, s, m, rfl, km, a0, a1, p0, p1, s0, s1, m0, m1⟩ := h
  obtain ⟨z, rfl, hz⟩ := mem_str km
  exact ⟨⟨z, a, pl, s, m⟩, rfl, ⟨hz, a0, a1, p0, p1, s0, s1, by show 0 ≤ m; omega, m1⟩⟩
theorem prt_X {zs : List Str} {d : D} (h : PrtP (zs.map PyData.str) d) : ∃ x : Pt, d = x.d ∧ x.ok zs := by
  obtain ⟨k, l, g, rfl, km, l0, lg, g1⟩ := h
  obtain ⟨z, rfl, hz⟩ := mem_str km
  exact ⟨⟨z, l, g⟩, rfl, ⟨hz, l0, lg, g1⟩⟩
theorem way_X {n : Int} {zs : List Str} {d : D} (n1 : 1 ≤ n) (n6 : n ≤ 6) (h : WayP n (zs.map PyData.str) d) : ∃ x : Wy, d = x.d ∧ x.ok n zs := by
  obtain ⟨k, ps, kp, hs, wt, rfl, km, p1, p3, hp, hkp, hhs, w1, w6⟩ := h
  obtain ⟨z, rfl, hz⟩ := mem_str km
  obtain ⟨Ps, rfl, hP⟩ := cho fun d hd => prt_X (hp d hd)
  have hl : hs.length ≤ n.toNat := by
    have := hhs.length_le
    rwa [List.length_map, List.length_range] at this
  have hb : ∀ x ∈ hs, 0 ≤ x ∧ x < n := fun x hx => by
    obtain ⟨i, hi, rfl⟩ := List.mem_map.mp (hhs.subset hx)
    have := List.mem_range.mp hi
    omega
  rw [List.length_map] at p1 p3
  rcases hkp with rfl | rfl
  · exact ⟨⟨z, Ps, Str.ofString "oldest", hs, wt⟩, rfl, ⟨hz, hP, p1, p3, .inl rfl, hb, by show hs.length ≤ 6; omega, w1, w6⟩⟩
  · exact ⟨⟨z, Ps, Str.ofString "youngest", hs, wt⟩, rfl, ⟨hz, hP, p1, p3, .inr rfl, hb, by show hs.length ≤ 6; omega, w1, w6⟩⟩
theorem world_X {d : D} (h : WorldP d) : ∃ X : Wd, d = X.d ∧ X.ok := by
  obtain ⟨n, ks, ss, ws, rfl, n1, n6, hk, s6, hss, w1, w8, hws⟩ := h.ex
  obtain ⟨k1, k4, hk⟩ := hk
  obtain ⟨zs, rfl, hz⟩ := cho fun d hd => name_str (hk d hd)
  obtain ⟨Ss, rfl, hS⟩ := cho fun d hd => src_X (hss d hd)
  obtain ⟨Ws, rfl, hW⟩ := cho fun d hd => way_X n1 n6 (hws d hd)
  rw [List.length_map] at k1 k4 s6 w8
  exact ⟨⟨n, zs, Ss, Ws⟩, rfl, ⟨n1, n6, k1, k4, hz, s6, hS, w8, hW⟩⟩
/-! ### it is neither deep nor long -/
theorem wSmall {i : Int} (h : i.natAbs < 2 ^ 52) : (PyData.int i).weight ≤ 52 := by
  show (if i == 0 then 0 else i.natAbs.log2 + 1) ≤ 52
  split
  · omega
  · by_cases z : i.natAbs = 0
    · rw [z]; decide
    · have := (Nat.log2_lt z).mpr h
      omega
def Lf (d : D) : Prop := Bd 0 1 d ∧ d.weight ≤ 52
theorem lf_int {i : Int} (h0 : -3000000000000001 ≤ i) (h1 : i ≤ 3000000000000001) : Lf (.int i) := ⟨by show i.natAbs ≤ 10 ^ 29 + 100 * 0; omega, wSmall (by omega)⟩
theorem lf_str {z : Str} (h : PyData.strOk z = true) (h2 : z.length ≤ 20) : Lf (.str z) := ⟨⟨h, h2⟩, by show z.length ≤ 52; omega⟩
theorem lf_S (x : String) (h1 : PyData.strOk (Str.ofString x) = true := by decide +kernel) (h2 : (Str.ofString x).length ≤ 20 := by decide +kernel) : Lf (S x) := lf_str h1 h2
theorem bd_tup {m n c l : Nat} {ds : List D} (hl : ds.length ≤ l) (l70 : l ≤ 70) (h : ∀ d ∈ ds, Bd m n d ∧ d.weight ≤ c) : Bd m (n + 1) (.tuple ds) ∧ (PyData.tuple ds).weight ≤ l * (c + 1) :=
  ⟨⟨by omega, fun d hd => (h d hd).1⟩, Nat.le_trans (wAll_le fun d hd => (h d hd).2) (Nat.mul_le_mul_right _ hl)⟩
theorem lf_up {n c : Nat} {d : D} (h : Lf d) (hn : 1 ≤ n) (hc : 52 ≤ c) : Bd 0 n d ∧ d.weight ≤ c := ⟨h.1.up (Nat.le_refl _) hn, Nat.le_trans h.2 hc⟩
theorem up2 {n n' c c' : Nat} {d : D} (h : Bd 0 n d ∧ d.weight ≤ c) (hn : n ≤ n') (hc : c ≤ c') : Bd 0 n' d ∧ d.weight ≤ c' := ⟨h.1.up (Nat.le_refl _) hn, Nat.le_trans h.2 hc⟩
theorem ints_bd {ns : List Int} {l : Nat} (hl : ns.length ≤ l) (l70 : l ≤ 70) (h : ∀ i ∈ ns, -3000000000000001 ≤ i ∧ i ≤ 3000000000000001) : Bd 0 2 (.tuple (ns.map PyData.int)) ∧ (PyData.tuple (ns.map PyData.int)).weight ≤ l * 53 :=
  bd_tup (c := 52) (by rw [List.length_map]; exact hl) l70 fun d hd => by
    obtain ⟨i, hi, rfl⟩ := List.mem_map.mp hd
    exact lf_int (h i hi).1 (h i hi).2
theorem wd_bd {X : Wd} (h : X.ok) : Bd 0 6 X.d ∧ X.d.weight ≤ 25000 := by
  have n1 := h.n1
  have n6 := h.n6
  have kb : ∀ z ∈ X.ks, Lf (.str z) := fun z hz => lf_str (h.ks z hz).1 (h.ks z hz).2
  have e1 : Bd 0 5 (.tuple (X.ks.map PyData.str)) ∧ (PyData.tuple (X.ks.map PyData.str)).weight ≤ 4 * 53 := up2 (bd_tup (l := 4) (c := 52) (by rw [List.length_map]; exact h.k4) (by decide) fun d hd => by
    obtain ⟨z, hz, rfl⟩ := List.mem_map.mp hd
    exact kb z hz) (by decide) (Nat.le_refl _)
  have e2 : Bd 0 5 (.tuple (X.ss.map Sr.d)) ∧ (PyData.tuple (X.ss.map Sr.d)).weight ≤ 6 * (265 + 1) := up2 (bd_tup (l := 6) (c := 5 * 53) (by rw [List.length_map]; exact h.sl) (by decide) fun d hd => by
    obtain ⟨s, hs, rfl⟩ := List.mem_map.mp hd
    have ok := h.ss s hs
    have a0 := ok.a0; have a1 := ok.a1; have p0 := ok.p0; have p1 := ok.p1; have s0 := ok.s0; have s1 := ok.s1; have m0 := ok.m0; have m1 := ok.m1
    refine bd_tup (l := 5) (c := 52) (n := 1) (by simp) (by decide) fun d hd => ?_
    simp only [List.mem_cons, List.not_mem_nil, or_false] at hd
    rcases hd with rfl | rfl | rfl | rfl | rfl
    · exact kb _ ok.k
    · exact lf_int (by omega) (by omega)
    · exact lf_int (by omega) (by omega)
    · exact lf_int (by omega) (by omega)
    · exact lf_int (by omega) (by omega)) (by decide) (Nat.le_refl _)
  have e3 : Bd 0 5 (.tuple (X.ws.map Wy.d)) ∧ (PyData.tuple (X.ws.map Wy.d)).weight ≤ 8 * (2435 + 1) := up2 (bd_tup (l := 8) (c := 5 * 487) (n := 4) (by rw [List.length_map]; exact h.wl) (by decide) fun d hd => by
    obtain ⟨y, hy, rfl⟩ := List.mem_map.mp hd
    have ok := h.ws y hy
    have w0 := ok.w0; have w1 := ok.w1
    refine bd_tup (l := 5) (c := 486) (n := 3) (by simp) (by decide) fun d hd => ?_
    simp only [List.mem_cons, List.not_mem_nil, or_false] at hd
    rcases hd with rfl | rfl | rfl | rfl | rfl
    · exact lf_up (kb _ ok.k) (by decide) (by decide)
    · refine up2 (bd_tup (l := 3) (c := 3 * 53) (n := 2) (by rw [List.length_map]; exact ok.p3) (by decide) fun d hd => ?_) (by decide) (by decide)
      obtain ⟨p, hp, rfl⟩ := List.mem_map.mp hd
      have po := ok.ps p hp
      have l0 := po.l0; have lg := po.lg; have g1 := po.g1
      refine bd_tup (l := 3) (c := 52) (n := 1) (by simp) (by decide) fun d hd => ?_
      simp only [List.mem_cons, List.not_mem_nil, or_false] at hd
      rcases hd with rfl | rfl | rfl
      · exact kb _ po.k
      · exact lf_int (by omega) (by omega)
      · exact lf_int (by omega) (by omega)
    · rcases ok.kp with e | e
      · rw [e]; exact lf_up (lf_S "oldest") (by decide) (by decide)
      · rw [e]; exact lf_up (lf_S "youngest") (by decide) (by decide)
    · exact up2 (ints_bd ok.hl (by decide) fun i hi => by have := ok.hs i hi; omega) (by decide) (by decide)
    · exact lf_up (lf_int (by omega) (by omega)) (by decide) (by decide)) (by decide) (Nat.le_refl _)
  refine ⟨⟨by simp, fun d hd => ?_⟩, ?_⟩
  · simp only [List.mem_cons, List.not_mem_nil, or_false] at hd
    rcases hd with rfl | rfl | rfl | rfl
    · exact (lf_int (by omega) (by omega)).1.up (Nat.le_refl _) (by decide)
    · exact e1.1
    · exact e2.1
    · exact e3.1
  · have e0 : (PyData.int X.n).weight ≤ 52 := (lf_int (by omega) (by omega)).2
    have e1 := e1.2; have e2 := e2.2; have e3 := e3.2
    show (PyData.int X.n).weight + 1 + ((PyData.tuple (X.ks.map PyData.str)).weight + 1 + ((PyData.tuple (X.ss.map Sr.d)).weight + 1 + ((PyData.tuple (X.ws.map Wy.d)).weight + 1 + 0))) ≤ 25000
    have : 8 * (2435 + 1) = 19488 := rfl
    omega
end Dl
namespace Dl
open PySem PySem.Spec PyProof.Rows L2 Rt
theorem ev_lcGF {p : Pat} {c : Rho → Option Bool} {f : EF} {ρ : Rho} {α : Type} {e t : α → D} {k : α → Bool} : ∀ (xs : List α), (∀ x ∈ xs, ∃ ρ1, bindP p (e x) ρ = some ρ1 ∧ c ρ1 = some (k x) ∧ f ρ1 = some (t x)) → lcGo p c f ρ (xs.map e) = some ((xs.filter k).map t)
  | [], _ => rfl
  | x :: xs, h => by
    obtain ⟨ρ1, e1, e2, e3⟩ := h x (by simp)
    show (bindP p (e x) ρ).bind _ = _
    rw [e1]
    show (c ρ1).bind _ = _
    rw [e2]
    have ih := ev_lcGF xs fun y hy => h y (by simp [hy])
    cases hk : k x with
    | true =>
      rw [List.filter_cons_of_pos hk]
      show (f ρ1).bind _ = _
      rw [e3]
      show (lcGo _ _ _ _ _).map _ = _
      rw [ih]
      rfl
    | false =>
      rw [List.filter_cons_of_neg (by rw [hk]; decide)]
      show lcGo _ _ _ _ _ = _
      exact ih
/-! ### bringings that can be a part -/
def fstI (X : Wd) (r : Sr) : Int := r.s + (r.p - r.s) % X.n
def frLo (X : Wd) (p : Pt) (t : Int) (r : Sr) : Int := if t - p.g + r.a > fstI X r then t - p.g + r.a else fstI X r
def frHi (p : Pt) (t : Int) (r : Sr) : Int := if t - p.l + r.a < t then t - p.l + r.a else t
def rgI (lo : Int) (n : Nat) : List Int := (List.range n).map fun (i : Nat) => lo + i
theorem rgD_I (lo : Int) (n : Nat) : rgD lo n = (rgI lo n).map PyData.int := by
  unfold rgD rgI
  rw [List.map_map]
  rfl
def frOne (X : Wd) (p : Pt) (t : Int) (j : Nat) (r : Sr) : List Rw := if (r.k == p.k) = true then ((rgI (frLo X p t r) (frHi p t r + 1 - frLo X p t r).toNat).filter fun i => i % X.n == r.p).map (Rw.br j r) else []
def frAll (X : Wd) (p : Pt) (t : Int) : Nat → List Sr → List Rw
  | _, [] => []
  | j, r :: rs => frOne X p t j r ++ frAll X p t (j + 1) rs
theorem frOne_len {X : Wd} {p : Pt} {t : Int} {j : Nat} {r : Sr} (lg : p.l ≤ p.g) (l0 : 0 ≤ p.l) (g1 : p.g ≤ 20) : (frOne X p t j r).length ≤ 21 ∧ frHi p t r + 1 - frLo X p t r ≤ 21 := by
  have h : frHi p t r + 1 - frLo X p t r ≤ 21 := by
    unfold frHi frLo
    split <;> split <;> omega
  refine ⟨?_, h⟩
  unfold frOne
  split
  · rw [List.length_map]
    refine Nat.le_trans (List.length_filter_le _ _) ?_
    unfold rgI
    rw [List.length_map, List.length_range]
    omega
  · simp
theorem frAll_mem {X : Wd} {p : Pt} {t : Int} : ∀ {rs : List Sr} {j : Nat} {x : Rw}, x ∈ frAll X p t j rs → ∃ k r i, rs[k]? = some r ∧ x = .br (j + k) r i ∧ (r.k == p.k) = true ∧ (i % X.n == r.p) = true ∧ frLo X p t r ≤ i ∧ i ≤ frHi p t r
  | [], _, _, h => nomatch h
  | r :: rs, j, x, h => by
    rcases List.mem_append.mp h with h | h
    · unfold frOne at h
      split at h
      · obtain ⟨i, hi, rfl⟩ := List.mem_map.mp h
        obtain ⟨hi, hm⟩ := List.mem_filter.mp hi
        obtain ⟨m, hm2, rfl⟩ := List.mem_map.mp hi
        have := List.mem_range.mp hm2
        exact ⟨0, r, _, rfl, rfl, by assumption, hm, by omega, by omega⟩
      · cases h
    · obtain ⟨k, r', i, e1, e2, e3⟩ := frAll_mem h
      exact ⟨k + 1, r', i, e1, by rw [e2]; congr 1; omega, e3⟩
def SFre : Sem (Wd × Pt × Int) where
  enc := fun (X, p, t) => [X.d, p.d, .int t]
  ok := fun (X, p, t) => X.ok ∧ p.ok X.ks ∧ 0 ≤ t ∧ t ≤ 1000000000
  out := fun (X, p, t) => .list ((frAll X p t 0 X.ss).map Rw.d)
  fn := fun {x y} _ _ e => by
    obtain ⟨X, p, t⟩ := x
    obtain ⟨X', p', t'⟩ := y
    injection e with e1 e
    injection e with e2 e
    injection e with e3 e
    cases Wd.inj e1
    cases Pt.inj e2
    cases int_i e3
    rfl
def freR (X : Wd) (p : Pt) (t : Int) (L : List D) (a b c d e f g h i : Option LV) : Rho := [some (.dat X.d), some (.dat p.d), some (.dat (.int t)), some (.dat (.list L)), a, b, c, d, e, f, g, h, i, none]
noncomputable def freB : Rho → Option Out := sSeq (sAsg (.tp (.cons (.nm 5) (.cons (.nm 6) (.cons (.nm 7) (.cons (.nm 8) (.cons (.nm 9) .nil)))))) (e2 ixD (e2 ixD (eVar 0) (eC (.int 2))) (eVar 4))) (sSeq (sPar 10 11 (aCons (eCall max2D (aCons (eCall (gN 2 SFst.f) (aCons (eVar 0) (aCons (eVar 4) aNil))) (aCons (e2 addD (e2 subD (eVar 2) (e2 ixD (eVar 1) (eC (.int 2)))) (eVar 6)) aNil))) (aCons (eCall min2D (aCons (eVar 2) (aCons (e2 addD (e2 subD (eVar 2) (e2 ixD (eVar 1) (eC (.int 1)))) (eVar 6)) aNil))) aNil))) (sIf (oB (e2 eqD (eVar 5) (e2 ixD (eVar 1) (eC (.int 0))))) (sSeq (sAsg (.nm 12) (eLstRg2 (eVar 10) (e2 addD (eVar 11) (eC (.int 1))))) (sAsg (.nm 3) (e2 addD (eVar 3) (eLc true [13] (itSeq (eVar 12)) (.nm 13) (oB (e2 eqD (e2 modD (eVar 13) (e2 ixD (eVar 0) (eC (.int 0)))) (eVar 7))) (eTup (aCons (eC (S "brought")) (aCons (eVar 4) (aCons (eVar 13) aNil)))))))) sNil))
theorem fre_for {X : Wd} (hX : X.ok) {p : Pt} (hp : p.ok X.ks) {t : Int} (t0 : 0 ≤ t) (t1 : t ≤ 1000000000) : ∀ (rs : List Sr) (j : Nat) (L : List D) (a b c d e f g h i : Option LV), X.ss.drop j = rs → L.length ≤ 21 * j →
    ∃ a' b' c' d' e' f' g' h' i', forGo (.nm 4) freB (rgD j rs.length) (freR X p t L a b c d e f g h i) = some (.nx (freR X p t (L ++ (frAll X p t j rs).map Rw.d) a' b' c' d' e' f' g' h' i'))
  | [], j, L, a, b, c, d, e, f, g, h, i, _, _ => ⟨a, b, c, d, e, f, g, h, i, by show some (Out.nx (freR X p t L a b c d e f g h i)) = some (.nx (freR X p t (L ++ []) a b c d e f g h i)); rw [List.append_nil]⟩
  | r :: rs, j, L, a, b, c, d, e, f, g, h, i, hD, hl => by
    have hk : X.ss[j]? = some r := by
      have := congrArg (fun l : List Sr => l[0]?) hD
      simpa using this
    have hD2 : X.ss.drop (j + 1) = rs := by
      have := congrArg (List.drop 1) hD
      rwa [List.drop_drop] at this
    have hj : j < X.ss.length := (List.getElem?_eq_some_iff.mp hk).1
    have sl := hX.sl
    have rok := hX.ss r (List.mem_of_getElem? hk)
    have n1 := hX.n1
    have n6 := hX.n6
    have s0 := rok.s0; have s1 := rok.s1; have a0 := rok.a0; have a1 := rok.a1
    have lg := hp.lg; have l0 := hp.l0; have g1 := hp.g1
    have q0 := Int.emod_nonneg (r.p - r.s) (show X.n ≠ 0 by omega)
    have q1 := Int.emod_lt_of_pos (r.p - r.s) (show 0 < X.n by omega)
    obtain ⟨ol, hw⟩ := frOne_len (X := X) (t := t) (j := j) (r := r) lg l0 g1
    have lob : 0 ≤ frLo X p t r ∧ frLo X p t r ≤ 2000000000 := by
      unfold frLo fstI
      split <;> omega
    have hib : -100 ≤ frHi p t r ∧ frHi p t r ≤ 2000000000 := by
      unfold frHi
      split <;> omega
    rw [List.length_cons, rgD_succ]
    have e1 : bindP (.nm 4) (.int j) (freR X p t L a b c d e f g h i) = some (freR X p t L (some (.dat (.int j))) b c d e f g h i) := rfl
    let R : Option LV → Option LV → Option LV → List D → Rho := fun g h i L => freR X p t L (some (.dat (.int j))) (some (.dat (.str r.k))) (some (.dat (.int r.a))) (some (.dat (.int r.p))) (some (.dat (.int r.s))) (some (.dat (.int r.m))) g h i
    have ef := Sem.of (S := SFst) (x := (X, j, r)) ⟨hX, hk⟩
    have ea : freB (freR X p t L (some (.dat (.int j))) b c d e f g h i) = _ := ev_asg (d := r.d) (ρ' := R g h i L) (ev_e2 (a := .tuple (X.ss.map Sr.d)) (b := .int j) rfl rfl (at_map hk)) rfl
    have em : aCons (eCall max2D (aCons (eCall (gN 2 SFst.f) (aCons (eVar 0) (aCons (eVar 4) aNil))) (aCons (e2 addD (e2 subD (eVar 2) (e2 ixD (eVar 1) (eC (.int 2)))) (eVar 6)) aNil))) (aCons (eCall min2D (aCons (eVar 2) (aCons (e2 addD (e2 subD (eVar 2) (e2 ixD (eVar 1) (eC (.int 1)))) (eVar 6)) aNil))) aNil) (R g h i L) = some [.int (frLo X p t r), .int (frHi p t r)] := by
      refine ev_cons ?_ rfl
      have := ev_cons (f := eCall (gN 2 SFst.f) (aCons (eVar 0) (aCons (eVar 4) aNil))) (g := aCons (e2 addD (e2 subD (eVar 2) (e2 ixD (eVar 1) (eC (.int 2)))) (eVar 6)) aNil) (ρ := R g h i L) (ev_call (ds := [X.d, .int j]) rfl rfl ef) (ds := [.int (t - p.g + r.a)]) rfl
      show (aCons _ _ _).bind max2D = _
      exact (congrArg (fun o : Option (List D) => o.bind max2D) this).trans rfl
    have ep : freB (freR X p t L (some (.dat (.int j))) b c d e f g h i) = sIf (oB (e2 eqD (eVar 5) (e2 ixD (eVar 1) (eC (.int 0))))) (sSeq (sAsg (.nm 12) (eLstRg2 (eVar 10) (e2 addD (eVar 11) (eC (.int 1))))) (sAsg (.nm 3) (e2 addD (eVar 3) (eLc true [13] (itSeq (eVar 12)) (.nm 13) (oB (e2 eqD (e2 modD (eVar 13) (e2 ixD (eVar 0) (eC (.int 0)))) (eVar 7))) (eTup (aCons (eC (S "brought")) (aCons (eVar 4) (aCons (eVar 13) aNil)))))))) sNil (R (some (.dat (.int (frLo X p t r)))) (some (.dat (.int (frHi p t r)))) i L) := by
      refine ea.trans (ev_seq ?_)
      show (aCons _ _ _).bind _ = _
      rw [em]
      rfl
    have eb : ∃ i', freB (freR X p t L (some (.dat (.int j))) b c d e f g h i) = some (.nx (R (some (.dat (.int (frLo X p t r)))) (some (.dat (.int (frHi p t r)))) i' (L ++ (frOne X p t j r).map Rw.d))) := by
      rw [ep]
      have ec : oB (e2 eqD (eVar 5) (e2 ixD (eVar 1) (eC (.int 0)))) (R (some (.dat (.int (frLo X p t r)))) (some (.dat (.int (frHi p t r)))) i L) = some (r.k == p.k) := ev_oB (ev_e2 (a := .str r.k) (b := .str p.k) rfl rfl (eq_ok (okD_str (hX.ks _ rok.k).1) (okD_str (hX.ks _ hp.k).1)))
      rw [ev_ifR ec]
      cases hkk : (r.k == p.k) with
      | false =>
        refine ⟨i, ?_⟩
        have : frOne X p t j r = [] := by unfold frOne; rw [hkk]; rfl
        rw [this]
        show some (Out.nx (R _ _ i L)) = some (.nx (R _ _ i (L ++ [])))
        rw [List.append_nil]
      | true =>
        let Z : D := .list (rgD (frLo X p t r) (frHi p t r + 1 - frLo X p t r).toNat)
        refine ⟨some (.dat Z), ?_⟩
        rw [if_pos rfl]
        refine (ev_asg (d := Z) (ρ' := R (some (.dat (.int (frLo X p t r)))) (some (.dat (.int (frHi p t r)))) (some (.dat Z)) L) (by
          show (if _ then _ else none) = _
          exact if_pos ⟨by omega, by omega, by omega, by omega, by omega⟩) rfl).trans ?_
        have el : eLc true [13] (itSeq (eVar 12)) (.nm 13) (oB (e2 eqD (e2 modD (eVar 13) (e2 ixD (eVar 0) (eC (.int 0)))) (eVar 7))) (eTup (aCons (eC (S "brought")) (aCons (eVar 4) (aCons (eVar 13) aNil)))) (R (some (.dat (.int (frLo X p t r)))) (some (.dat (.int (frHi p t r)))) (some (.dat Z)) L) = some (.list ((frOne X p t j r).map Rw.d)) := by
          refine ev_lcE (items := rgD (frLo X p t r) (frHi p t r + 1 - frLo X p t r).toNat) rfl ?_
          unfold frOne
          rw [if_pos hkk, List.map_map, rgD_I]
          refine ev_lcGF (e := PyData.int) (t := Rw.d ∘ Rw.br j r) (k := fun i => i % X.n == r.p) _ ?_
          intro x _
          refine ⟨_, rfl, ev_oB (ev_e2 (a := .int (x % X.n)) (b := .int r.p) (ev_e2 (a := .int x) (b := .int X.n) rfl rfl (if_pos (by omega))) rfl rfl), rfl⟩
        show (e2 addD _ _ _).bind _ = _
        rw [ev_e2 (g := addD) (f1 := eVar 3) (a := .list L) (b := .list ((frOne X p t j r).map Rw.d)) (d := .list (L ++ (frOne X p t j r).map Rw.d)) rfl el (add_lst (sz (by rw [List.length_map]; omega)))]
        rfl
    obtain ⟨i', eb⟩ := eb
    obtain ⟨a', b', c', d', e', f', g', h', i'', ih⟩ := fre_for hX hp t0 t1 rs (j + 1) (L ++ (frOne X p t j r).map Rw.d) (some (.dat (.int j))) (some (.dat (.str r.k))) (some (.dat (.int r.a))) (some (.dat (.int r.p))) (some (.dat (.int r.s))) (some (.dat (.int r.m))) (some (.dat (.int (frLo X p t r)))) (some (.dat (.int (frHi p t r)))) i' hD2 (by rw [List.length_append, List.length_map]; omega)
    refine ⟨a', b', c', d', e', f', g', h', i'', ?_⟩
    rw [List.append_assoc, ← List.map_append] at ih
    exact (ev_forC e1 eb).trans ih
section
variable {P : Program} {w : World} {K : PySem.W.Frag} {mg : Str → Option Value} {base : Heap}
theorem ok_fre {f : Addr} {fd : FuncData} (F : Fun K "_law_fresh" "_law_fresh" s_law_fresh f fd) (m_range : mg "range" = none) (m_len : mg "len" = none) (m_max : mg "max" = none) (m_min : mg "min" = none) (m_list : mg "list" = none) (C__law_first : Cl P w K mg base 1 "_law_first" ["_law_world_here", "_law_number"] (spD 2 SFst.f)) : FnOk P w K mg base CX0 2 f fd ["_law_world_here", "_law_part_here", "_law_moment"] (spD 3 SFre.f) := by
  refine okFn F sc_law_fresh rfl fun cdv A outer s H E hr => ⟨_, (dSs_cons (dS_asg (K := K) (p := .nm 3) (ps_set (i := 3) sc_law_fresh.nd rfl (.inl rfl) (dE_lst (dA_nil (μ := true)))))
  (dSs_cons (dS_for (K := K) (p := (.nm 4)) (ps_for PassesOwn.never rfl (dI_ran1 (by rfl) m_range (dA_cons (dE_callB c_len (by rfl) m_len (by decide +kernel) (dA_cons (dE_ix (dE_var (μ := true) (pv 0)) (dE_c (μ := true) pe_int)) (dA_nil (μ := true)))) (dA_nil (μ := true)))) (pg_name (i := 4) sc_law_fresh.nd rfl (.inr rfl))
    (dSs_cons (dS_asg (K := K) (p := (.tp (.cons (.nm 5) (.cons (.nm 6) (.cons (.nm 7) (.cons (.nm 8) (.cons (.nm 9) .nil))))))) (ps_asg (dE_ix (dE_ix (dE_var (μ := true) (pv 0)) (dE_c (μ := true) pe_int)) (dE_var (μ := true) (pv 4))) (pg_tup (by rfl) (pgs_cons (pg_name (i := 5) sc_law_fresh.nd rfl (.inl rfl)) (pgs_cons (pg_name (i := 6) sc_law_fresh.nd rfl (.inl rfl)) (pgs_cons (pg_name (i := 7) sc_law_fresh.nd rfl (.inr rfl)) (pgs_cons (pg_name (i := 8) sc_law_fresh.nd rfl (.inl rfl)) (pgs_cons (pg_name (i := 9) sc_law_fresh.nd rfl (.inl rfl)) pgs_nil))))))))
  (dSs_cons (dS_par (ps_par (i := 10) (j := 11) (by rfl) sc_law_fresh.nd rfl rfl (by decide) rfl rfl (dA_cons (dE_callB (c_max2 rfl) (by rfl) m_max (by decide +kernel) (dA_cons (dE_cl C__law_first (hr.mono (by omega)) (by rfl) (dA_cons (dE_var (μ := true) (pv 0)) (dA_cons (dE_var (μ := true) (pv 4)) (dA_nil (μ := true))))) (dA_cons (dE_op o_add (dE_op o_sub (dE_var (μ := true) (pv 2)) (dE_ix (dE_var (μ := true) (pv 1)) (dE_c (μ := true) pe_int))) (dE_var (μ := true) (pv 6))) (dA_nil (μ := true))))) (dA_cons (dE_callB (c_min2 rfl) (by rfl) m_min (by decide +kernel) (dA_cons (dE_var (μ := true) (pv 2)) (dA_cons (dE_op o_add (dE_op o_sub (dE_var (μ := true) (pv 2)) (dE_ix (dE_var (μ := true) (pv 1)) (dE_c (μ := true) pe_int))) (dE_var (μ := true) (pv 6))) (dA_nil (μ := true))))) dA_nil)) (by rfl)))
  (dSs_one (dS_if (dT_cmp (o_eq hr.units) (dE_var (μ := true) (pv 5)) (dE_ix (dE_var (μ := true) (pv 1)) (dE_c (μ := true) pe_int)) (nomark _))
    (dSs_cons (dS_asg (K := K) (p := .nm 12) (ps_set (i := 12) sc_law_fresh.nd rfl (.inl rfl) (dE_lstRg2 rfl (by rfl) m_list (by rfl) m_range (dE_var (μ := true) (pv 10)) (dE_op o_add (dE_var (μ := true) (pv 11)) (dE_c (μ := true) pe_int)))))
  (dSs_one (dS_asg (K := K) (p := .nm 3) (ps_set (i := 3) sc_law_fresh.nd rfl (.inl rfl) (dE_op o_add (dE_var (μ := true) (pv 3)) (dE_lc (K := K) (p := (.nm 13)) (pe_lc (own := [("_law_one_here", 13)]) (g := gP K (.nm 13)) rfl sc_law_fresh.nd (dI_seq (dE_var (μ := true) (pv 12))) (blkOk_by (own := [("_law_one_here", 13)]) (N := ["_law_world_here", "_law_part_here", "_law_moment", "_law_found", "_law_k", "_law_kind", "_law_age", "_law_place", "_law_since", "_law_many", "_law_low", "_law_high", "_law_some", "_law_one_here"]) (sc := defScope s_law_fresh) (by decide +kernel)) (fun _ _ _ _ _ => (pg_name (i := 13) sc_law_fresh.nd rfl (.inl rfl))) (fun _ _ _ _ _ => (pts_one (dT_cmp (o_eq hr.units) (dE_op o_mod (dE_var (μ := true) (pv 13)) (dE_ix (dE_var (μ := true) (pv 0)) (dE_c (μ := true) pe_int))) (dE_var (μ := true) (pv 7)) (nomark _)))) (fun _ _ _ _ _ => (dE_tup (dA_cons (dE_c (μ := true) pe_str) (dA_cons (dE_var (μ := true) (pv 4)) (dA_cons (dE_var (μ := true) (pv 13)) (dA_nil (μ := true))))))))))))))
    dSs_nil))))))
  (dSs_one (dS_ret (ps_ret (dE_var (μ := true) (pv 3))))))), fun ds d l e => ?_⟩
  obtain ⟨⟨X, p, t⟩, ⟨hX, hp, t0, t1⟩, rfl, rfl⟩ := Sem.get e
  refine ⟨.rt (.list ((frAll X p t 0 X.ss).map Rw.d)), ?_, rfl⟩
  have sl := hX.sl
  have el : (X.ss.map Sr.d).length = X.ss.length := List.length_map ..
  refine (ev_asg (d := .list []) (ρ' := freR X p t [] none none none none none none none none none) rfl rfl).trans ?_
  obtain ⟨a', b', c', d', e', f', g', h', i', ef⟩ := fre_for hX hp t0 t1 X.ss 0 [] none none none none none none none none none rfl (Nat.zero_le _)
  have ei : itG ran1D (aCons (eCall lenD (aCons (e2 ixD (eVar 0) (eC (.int 2))) aNil)) aNil) (freR X p t [] none none none none none none none none none) = some (rgD 0 X.ss.length) := ev_itG (ds := [.int (X.ss.map Sr.d).length]) rfl ((ran1_ok (by omega) (by omega)).trans (by rw [el]; rfl))
  refine (ev_seq (ev_forS ei ef)).trans ?_
  rfl
end
end Dl
namespace Dl
open PySem PySem.Spec PyProof.Rows L2 Rt
/-! ### papers as they are made -/
def Rw.sm : Rw → Prop
  | .br j _ t => j ≤ 8 ∧ 0 ≤ t ∧ t ≤ 2000000
  | .md j _ t ns => j ≤ 8 ∧ 0 ≤ t ∧ t ≤ 2000000 ∧ 1 ≤ ns.length ∧ ns.length ≤ 3 ∧ ∀ i ∈ ns, 0 ≤ i ∧ i ≤ 100
def Rw.good (X : Wd) (ts : List Tg) : Rw → Prop
  | .br j r t => X.ss[j]? = some r ∧ 0 ≤ t ∧ t ≤ 3000000000000000 ∧ (decide (t ≥ r.s) && (t % X.n == r.p)) = true
  | .md j y t ns => X.ws[j]? = some y ∧ 0 ≤ t ∧ t ≤ 3000000000000000 ∧ ns.length = y.ps.length ∧ (∀ i ∈ ns, 0 ≤ i ∧ i ≤ (ts.length : Int) - 1) ∧ y.hs.any (· == t % X.n) = true ∧ (y.ps.zip ns).all (fun z => fitB z.1 (tgAt ts z.2) t) = true
theorem Rw.good.ok {X : Wd} {ts : List Tg} {r : Rw} (h : r.good X ts) : r.ok X ts.length := by
  cases r with
  | br j r t => exact h.1
  | md j y t ns => exact ⟨h.1, h.2.2.2.1, h.2.2.2.2.1⟩
theorem all_from {lo hi : Int} : ∀ {ns : List Int}, (∀ i ∈ ns, lo ≤ i ∧ i ≤ hi) → (ns.map PyData.int).all (isFrom lo hi) = true
  | [], _ => rfl
  | i :: ns, h => by
    rw [List.map_cons, List.all_cons, all_from fun j hj => h j (by simp [hj])]
    have := h i (by simp)
    show (decide (lo ≤ i) && decide (i ≤ hi) && true) = true
    rw [decide_eq_true this.1, decide_eq_true this.2]
    rfl
theorem Rw.good.wrd {X : Wd} {ts : List Tg} {r : Rw} (h : r.good X ts) : Dl.wrd X ts r.d = none ∧ rwOf X ts.length r.d = some r := by
  cases r with
  | br j r t =>
    obtain ⟨g, t0, t1, hm⟩ := h
    have hb : brR X (Rw.br j r t).d = some (j, r, t) := by
      refine (brR_eq (X := X) (z := Str.ofString "brought") (i := (j : Int)) (t := t)).trans ?_
      rw [if_pos ⟨rfl, by omega, t0, t1⟩]
      show (X.ss[j]?).map _ = _
      rw [g]
      rfl
    constructor
    · unfold Dl.wrd
      rw [hb]
      exact if_pos hm
    · unfold rwOf
      rw [hb]
  | md j y t ns =>
    obtain ⟨g, t0, t1, nl, hn, ho, hf⟩ := h
    have hb : brR X (Rw.md j y t ns).d = none := brR_len (by simp)
    have hm : mdR X ts.length (Rw.md j y t ns).d = some (j, y, t, ns) := by
      refine (mdR_eq (X := X) (n := (ts.length : Int)) (z := Str.ofString "made") (i := (j : Int)) (t := t) (ds := ns.map PyData.int)).trans ?_
      rw [if_pos ⟨rfl, by omega, t0, t1⟩]
      show (X.ws[j]?).bind _ = _
      rw [g]
      show (if (ns.map PyData.int).length = y.ps.length ∧ _ then _ else none) = _
      rw [if_pos ⟨by rw [List.length_map]; exact nl, all_from hn⟩, intsD.map]
      rfl
    constructor
    · unfold Dl.wrd
      rw [hb]
      show (match mdR X ts.length (Rw.md j y t ns).d with
        | none => some (Str.ofString "row")
        | some (_, y, t, ns) => if y.hs.any (· == t % X.n) = true then (if (y.ps.zip ns).all (fun z => fitB z.1 (tgAt ts z.2) t) = true then none else some (Str.ofString "part")) else some (Str.ofString "moment")) = none
      rw [hm]
      show (if y.hs.any (· == t % X.n) = true then (if (y.ps.zip ns).all (fun z => fitB z.1 (tgAt ts z.2) t) = true then none else some (Str.ofString "part")) else some (Str.ofString "moment")) = none
      rw [if_pos ho, if_pos hf]
    · unfold rwOf
      rw [hb]
      show (match mdR X ts.length (Rw.md j y t ns).d with | some (j, y, t, ns) => some (Rw.md j y t ns) | none => none) = _
      rw [hm]
theorem walk_snoc {X : Wd} {r : Rw} : ∀ {ds : List D} {k : Nat} {ts ts' : List Tg}, walkP X k ts ds = (none, ts') → r.good X ts' → walkP X k ts (ds ++ [r.d]) = (none, ts' ++ [tgOf ts' r])
  | [], k, ts, ts', h, g => by
    have e : ts = ts' := by
      have h : ((none : Option (Nat × Str)), ts) = (none, ts') := h
      injection h
    subst e
    obtain ⟨e1, e2⟩ := g.wrd
    show walkP X k ts [r.d] = _
    unfold walkP
    rw [e1]
    show (match rwOf X ts.length r.d with | some r => walkP X (k + 1) (ts ++ [tgOf ts r]) [] | none => (none, ts)) = _
    rw [e2]
    rfl
  | d :: ds, k, ts, ts', h, g => by
    show walkP X k ts (d :: (ds ++ [r.d])) = _
    unfold walkP at h ⊢
    cases hw : Dl.wrd X ts d with
    | some w =>
      rw [hw] at h
      have h : ((some (k, w) : Option (Nat × Str)), ts) = (none, ts') := h
      injection h with h1 _
      cases h1
    | none =>
      rw [hw] at h
      obtain ⟨r', hr⟩ := wrd_rw hw
      have h : (match rwOf X ts.length d with | some r => walkP X (k + 1) (ts ++ [tgOf ts r]) ds | none => (none, ts)) = (none, ts') := h
      rw [hr] at h
      show (match rwOf X ts.length d with | some r' => walkP X (k + 1) (ts ++ [tgOf ts r']) (ds ++ [r.d]) | none => (none, ts)) = _
      rw [hr]
      exact walk_snoc h g
/-- each row stands, those ahead of it being told -/
inductive Gd (X : Wd) : List Rw → List Tg → Prop
  | nil : Gd X [] []
  | snoc {rs : List Rw} {ts : List Tg} {r : Rw} : Gd X rs ts → r.good X ts → Gd X (rs ++ [r]) (ts ++ [tgOf ts r])
structure Pap (X : Wd) (rs : List Rw) (ts : List Tg) : Prop where
  gd : Gd X rs ts
  walk : walkP X 0 [] (rs.map Rw.d) = (none, ts)
  len : ts.length = rs.length
  sk : ∀ g ∈ ts, PyData.strOk g.k = true
  sm : ∀ r ∈ rs, r.sm
theorem Pap.nil (X : Wd) : Pap X [] [] := ⟨.nil, rfl, rfl, fun g h => (nomatch h), fun g h => (nomatch h)⟩
theorem Pap.snoc {X : Wd} {rs : List Rw} {ts : List Tg} {r : Rw} (h : Pap X rs ts) (hX : X.ok) (g : r.good X ts) (s : r.sm) : Pap X (rs ++ [r]) (ts ++ [tgOf ts r]) where
  gd := .snoc h.gd g
  walk := by
    rw [List.map_append]
    exact walk_snoc h.walk g
  len := by rw [List.length_append, List.length_append, h.len]; rfl
  sk := fun x hx => by
    rcases List.mem_append.mp hx with hx | hx
    · exact h.sk x hx
    · rw [List.mem_singleton.mp hx]; exact tgOf_ok hX g.ok
  sm := fun x hx => by
    rcases List.mem_append.mp hx with hx | hx
    · exact h.sm x hx
    · rw [List.mem_singleton.mp hx]; exact s
theorem tgAt_app {ts : List Tg} {g : List Tg} {i : Int} (h0 : 0 ≤ i) (h1 : i ≤ (ts.length : Int) - 1) : tgAt (ts ++ g) i = tgAt ts i := by
  unfold tgAt
  rw [List.getElem?_append_left (by omega)]
theorem tgAt_last {ts : List Tg} {g : Tg} : tgAt (ts ++ [g]) (ts.length : Int) = g := by
  unfold tgAt
  rw [show ((ts.length : Int).toNat) = ts.length by omega, List.getElem?_append_right (Nat.le_refl _), Nat.sub_self]
  rfl
theorem fits_app {ts : List Tg} {g : List Tg} {t : Int} {ps : List Pt} {ns : List Int} (h : ∀ i ∈ ns, 0 ≤ i ∧ i ≤ (ts.length : Int) - 1) : (ps.zip ns).all (fun z => fitB z.1 (tgAt (ts ++ g) z.2) t) = (ps.zip ns).all (fun z => fitB z.1 (tgAt ts z.2) t) := by
  rw [Bool.eq_iff_iff, List.all_eq_true, List.all_eq_true]
  refine ⟨fun H z hz => ?_, fun H z hz => ?_⟩
  · have := h z.2 (List.of_mem_zip hz).2
    have := H z hz
    rwa [tgAt_app (by omega) (by omega)] at this
  · have := h z.2 (List.of_mem_zip hz).2
    rw [tgAt_app (by omega) (by omega)]
    exact H z hz
/-- what is fresh can be a part -/
theorem fre_good {X : Wd} (hX : X.ok) {p : Pt} {t : Int} {x : Rw} {ts : List Tg} (t1 : t ≤ 2000000) (h : x ∈ frAll X p t 0 X.ss) : x.good X ts ∧ x.sm ∧ fitB p (tgOf ts x) t = true := by
  obtain ⟨k, r, i, g, rfl, hk, hm, lo, hi⟩ := frAll_mem h
  rw [Nat.zero_add]
  have rok := hX.ss r (List.mem_of_getElem? g)
  have hkl := (List.getElem?_eq_some_iff.mp g).1
  have sl := hX.sl
  have n1 := hX.n1
  have q0 := Int.emod_nonneg (r.p - r.s) (show X.n ≠ 0 by omega)
  have s0 := rok.s0; have a0 := rok.a0
  have lo2 : fstI X r ≤ i ∧ t - p.g + r.a ≤ i := by
    unfold frLo at lo
    split at lo <;> omega
  have hi2 : i ≤ t ∧ i ≤ t - p.l + r.a := by
    unfold frHi at hi
    split at hi <;> omega
  have is : r.s ≤ i := by
    have := lo2.1
    unfold fstI at this
    omega
  refine ⟨⟨g, by omega, by omega, ?_⟩, ⟨by omega, by omega, by omega⟩, ?_⟩
  · rw [decide_eq_true (show i ≥ r.s from is), hm]; rfl
  · show ((r.k == p.k) && (decide (i ≤ t) && (decide (p.l ≤ t - (i - r.a)) && decide (t - (i - r.a) ≤ p.g)))) = true
    rw [hk, decide_eq_true hi2.1, decide_eq_true (by omega), decide_eq_true (by omega)]
    rfl
/-- a walk over a list, with what is behind -/
theorem forN_pre {α : Type} {e : α → D} {p : Pat} {body : WP Out} {Q : Out → Nat → Prop} (N c : Nat) (I : List α → Rho → Prop) : ∀ (qs pre : List α) (ρ : Rho) (b : Nat), pre.length + qs.length ≤ N → I pre ρ → qs.length * c ≤ b → (∀ x ∈ qs, ∀ pre ρ b, pre.length < N → I pre ρ → c ≤ b → ∃ ρ1, bindP p (e x) ρ = some ρ1 ∧ ∀ Q' : Out → Nat → Prop, (∀ ρ2 b2, I (pre ++ [x]) ρ2 → b ≤ b2 + c → Q' (.nx ρ2) b2) → body.w ρ1 b Q') → (∀ ρ' b', I (pre ++ qs) ρ' → b ≤ b' + qs.length * c → Q (.nx ρ') b') → forN p body (qs.map e) ρ b Q
  | [], pre, ρ, b, _, i, _, _, q => q ρ b (by rw [List.append_nil]; exact i) (by simp)
  | x :: qs, pre, ρ, b, hN, i, hb, hs, q => by
    have e1 : (x :: qs).length * c = qs.length * c + c := by rw [List.length_cons, Nat.add_mul, Nat.one_mul]
    rw [e1] at hb q
    rw [List.length_cons] at hN
    obtain ⟨ρ1, e1, hw⟩ := hs x (by simp) pre ρ b (by omega) i (by omega)
    refine ⟨ρ1, e1, hw _ fun ρ2 b2 i2 h2 => forN_pre N c I qs (pre ++ [x]) ρ2 b2 (by rw [List.length_append, List.length_singleton]; omega) i2 (by omega) (fun y hy => hs y (by simp [hy])) fun ρ' b' i' h' => q ρ' b' ?_ (by omega)⟩
    rw [List.append_assoc] at i'
    exact i'
theorem nlAll_int : ∀ ns : List Int, nlAll (ns.map PyData.int) = true
  | [] => rfl
  | n :: ns => nlAll_int ns
end Dl
namespace Dl
open PySem PySem.Spec PyProof.Rows L2 Rt
def gParts : GF := gAny 6 (fun ds => ∃ X y t rs ts, ds = [Wd.d X, Wy.d y, .int t, .list [.list (rs.map Rw.d), .list (ts.map Tg.d)]] ∧ X.ok ∧ y ∈ X.ws ∧ 0 ≤ t ∧ t ≤ 1500000 ∧ Pap X rs ts ∧ rs.length ≤ 60)
  (fun ds d => ∃ X y t L M, ds = [Wd.d X, Wy.d y, .int t, .list [.list L, .list M]] ∧ (d = .none ∨ ∃ rs ts ns, d = .list [.list (rs.map Rw.d), .list (ts.map Tg.d), .tuple (ns.map PyData.int)] ∧ Pap X rs ts ∧ rs.length ≤ L.length + 3 ∧ ns.length = y.ps.length ∧ (∀ i ∈ ns, 0 ≤ i ∧ i ≤ (ts.length : Int) - 1) ∧ (y.ps.zip ns).all (fun z => fitB z.1 (tgAt ts z.2) t) = true))
def parR (X : Wd) (y : Wy) (t : Int) (P : D) (rs : List Rw) (ts : List Tg) (ns : List Int) (a b c : Option LV) : Rho := [some .pool, some (.dat X.d), some (.dat y.d), some (.dat (.int t)), some (.dat P), some (.own (rs.map Rw.d)), some (.own (ts.map Tg.d)), some (.own (ns.map PyData.int)), a, b, c, none]
section
variable {P : Program} {w : World} {K : PySem.W.Frag} {mg : Str → Option Value} {base : Heap}
theorem ok_parts {f : Addr} {fd : FuncData} (F : Fun K "_law_parts" "_law_parts" s_law_parts f fd) (m_range : mg "range" = none) (m_len : mg "len" = none) (m_tuple : mg "tuple" = none) (C__law_next : Cl P w K mg base 1 "_law_next" ["_law_drawn", "_law_below"] (spN 1 gNext)) (C__law_one : Cl P w K mg base 2 "_law_one" ["_law_drawn", "_law_wares"] (spN 1 gOne)) (C__law_fits : Cl P w K mg base 1 "_law_fits" ["_law_part_here", "_law_thing", "_law_moment"] (spD 3 SFit.f)) (C__law_fresh : Cl P w K mg base 2 "_law_fresh" ["_law_world_here", "_law_part_here", "_law_moment"] (spD 3 SFre.f)) (C__law_born : Cl P w K mg base 1 "_law_born" ["_law_world_here", "_law_row", "_law_found"] (spD 3 SBrn.f)) : FnOk P w K mg base CX0 3 f fd ["_law_drawn", "_law_world_here", "_law_way_here", "_law_moment", "_law_paper_here"] (spN 4 gParts) := by
  refine okFnN F sc_law_parts rfl fun cdv A outer s H E hr => ⟨_, (nSs_cons (nS_parT (K := K) (i := 5) (j := 6) (ps_asg (pe_tupF (pa_cons (oE_catD (dE_ix (dE_var (μ := true) (pv 4)) (dE_c (μ := true) pe_int)) (dE_lst (dA_nil (μ := true)))) (pa_cons (oE_catD (dE_ix (dE_var (μ := true) (pv 4)) (dE_c (μ := true) pe_int)) (dE_lst (dA_nil (μ := true)))) pa_nil))) (pg_tup (by rfl) (pgs_cons (pg_name (i := 5) sc_law_parts.nd rfl (.inl rfl)) (pgs_cons (pg_name (i := 6) sc_law_parts.nd rfl (.inr rfl)) pgs_nil)))))
  (nSs_cons (nS_own (ps_set (i := 7) sc_law_parts.nd rfl (.inl rfl) (nN_lst nA_nil)))
  (nSs_cons (nS_for (K := K) (p := (.nm 8)) (ps_for PassesOwn.never rfl (nI_pure (dI_seq (dE_ix (dE_var (μ := true) (pv 2)) (dE_c (μ := true) pe_int)))) (pg_name (i := 8) sc_law_parts.nd rfl (.inr rfl))
    (nSs_cons (nS_lcL (K := K) (p := (.nm 11)) (ps_setLc (i := 9) (own := [("_law_k", 11)]) (g := gP K (.nm 11)) rfl sc_law_parts.nd rfl rfl (sw_true rfl rfl rfl (by decide +kernel)) (dI_ran1 (by rfl) m_range (dA_cons (dE_callB c_len (by rfl) m_len (by decide +kernel) (dA_cons (dE_var (μ := true) (pv 6)) (dA_nil (μ := true)))) (dA_nil (μ := true)))) (blkOk_by (own := [("_law_k", 11)]) (N := ["_law_drawn", "_law_world_here", "_law_way_here", "_law_moment", "_law_paper_here", "_law_rows", "_law_found", "_law_numbers", "_law_part_here", "_law_some", "_law_fresh_here", "_law_k"]) (sc := defScope s_law_parts) (by decide +kernel)) (fun _ _ _ _ _ => (pg_name (i := 11) sc_law_parts.nd rfl (.inl rfl))) (fun _ _ _ _ _ => (pts_one (dT_val (dE_cl C__law_fits (hr.mono (by omega)) (by rfl) (dA_cons (dE_var (μ := true) (pv 8)) (dA_cons (dE_ix (dE_var (μ := true) (pv 6)) (dE_var (μ := true) (pv 11))) (dA_cons (dE_var (μ := true) (pv 3)) (dA_nil (μ := true))))))))) (fun _ _ _ _ _ => (dE_var (μ := true) (pv 11)))))
  (nSs_cons (nS_asg (K := K) (p := .nm 10) (ps_set (i := 10) sc_law_parts.nd rfl (.inl rfl) (nE_pure (dE_cl C__law_fresh (hr.mono (by omega)) (by rfl) (dA_cons (dE_var (μ := true) (pv 1)) (dA_cons (dE_var (μ := true) (pv 8)) (dA_cons (dE_var (μ := true) (pv 3)) (dA_nil (μ := true)))))))))
  (nSs_one (nS_if (PW.pt (nW_and (nT_pure (dT_cmp (o_neZ hr.units) (dE_var (μ := true) (pv 9)) (dE_lst (dA_nil (μ := true))) (nomark _))) (nW_and1 (PW.pt (nW_or (nT_pure (dT_cmp (o_eqZ hr.units) (dE_var (μ := true) (pv 10)) (dE_lst (dA_nil (μ := true))) (nomark _))) (nW_or1 (nT_cmp o_gt (nE_draw C__law_next (hr.mono (by omega)) (by rfl) (pv 0) (nA_cons (nE_pure (dE_c (μ := true) pe_int)) nA_nil)) (nE_pure (dE_c (μ := true) pe_int)) (nomark _))))))))
    (nSs_one (nS_app (K := K) (ps_expr (pe_bm PySem.F.plainAttrs_list PySem.F.slot_list_append PySem.F.type_list_append mt_append (pv 7) (nA_cons (nE_draw C__law_one (hr.mono (by omega)) (by rfl) (pv 0) (nA_cons (nE_pure (dE_var (μ := true) (pv 9))) nA_nil)) nA_nil)))))
    (nSs_one (nS_if (nT_pure (dT_cmp (o_neZ hr.units) (dE_var (μ := true) (pv 10)) (dE_lst (dA_nil (μ := true))) (nomark _)))
    (nSs_cons (nS_app (K := K) (ps_expr (pe_bm PySem.F.plainAttrs_list PySem.F.slot_list_append PySem.F.type_list_append mt_append (pv 5) (nA_cons (nE_draw C__law_one (hr.mono (by omega)) (by rfl) (pv 0) (nA_cons (nE_pure (dE_var (μ := true) (pv 10))) nA_nil)) nA_nil))))
  (nSs_cons (nS_app (K := K) (ps_expr (pe_bm PySem.F.plainAttrs_list PySem.F.slot_list_append PySem.F.type_list_append mt_append (pv 6) (nA_cons (nE_loose (dE_cl C__law_born (hr.mono (by omega)) (by rfl) (dA_cons (dE_var (μ := true) (pv 1)) (dA_cons (dE_ix (dE_var (μ := true) (pv 5)) (dE_neg (dE_c (μ := true) pe_int))) (dA_cons (dE_var (μ := true) (pv 6)) (dA_nil (μ := true))))))) nA_nil))))
  (nSs_one (nS_app (K := K) (ps_expr (pe_bm PySem.F.plainAttrs_list PySem.F.slot_list_append PySem.F.type_list_append mt_append (pv 7) (nA_cons (nE_loose (dE_op o_sub (dE_callB c_len (by rfl) m_len (by decide +kernel) (dA_cons (dE_var (μ := true) (pv 6)) (dA_nil (μ := true)))) (dE_c (μ := true) pe_int))) nA_nil)))))))
    nSs_nil))))))))
  (nSs_cons (nS_if (nT_loose (dT_cmp o_lt (dE_callB c_len (by rfl) m_len (by decide +kernel) (dA_cons (dE_var (μ := true) (pv 7)) (dA_nil (μ := true)))) (dE_callB c_len (by rfl) m_len (by decide +kernel) (dA_cons (dE_ix (dE_var (μ := true) (pv 2)) (dE_c (μ := true) pe_int)) (dA_nil (μ := true)))) (nomark _)))
    (nSs_one (nS_retL (ps_ret (dE_c (μ := true) pe_non))))
    nSs_nil)
  (nSs_one (nS_retL (ps_ret (dE_lst (dA_cons (dE_var (μ := true) (pv 5)) (dA_cons (dE_var (μ := true) (pv 6)) (dA_cons (dE_callTy c_tuple (by rfl) m_tuple (by decide +kernel) (dA_cons (dE_var (μ := true) (pv 7)) (dA_nil (μ := true)))) (dA_nil (μ := true))))))))))))), fun ds b Q l h => ?_⟩
  obtain ⟨⟨X, y, t, rs, ts, rfl, hX, hy, t0, t1, hP, r60⟩, hb, q⟩ := h
  have yok := hX.ws y hy
  have p3 := yok.p3
  let PD : D := .list [.list (rs.map Rw.d), .list (ts.map Tg.d)]
  have e0 : ∀ L : List D, L.length ≤ 100 → catL (.list L) (.list []) = some (.list L) := fun L hl => (if_pos (sz (by simp; omega))).trans (by rw [List.append_nil])
  refine ⟨rs.map Rw.d, ts.map Tg.d, ev_e2 (a := .list (rs.map Rw.d)) (b := .list []) rfl rfl (e0 _ (by rw [List.length_map]; omega)), ev_e2 (a := .list (ts.map Tg.d)) (b := .list []) rfl rfl (e0 _ (by rw [List.length_map, hP.len]; omega)), by show 5 < 12; decide, by show 6 < 12; decide, by decide, ?_⟩
  refine ⟨.list [], rfl, [], rfl, by show 7 < 12; decide, ?_⟩
  refine ⟨y.ps.map Pt.d, rfl, ?_⟩
  refine forN_pre (e := Pt.d) 3 2 (fun pre ρ => ∃ rs' ts' ns a b c, ρ = parR X y t PD rs' ts' ns a b c ∧ Pap X rs' ts' ∧ rs'.length ≤ rs.length + pre.length ∧ ns.length ≤ pre.length ∧ (∀ i ∈ ns, 0 ≤ i ∧ i ≤ (ts'.length : Int) - 1) ∧ (ns.length = pre.length → (pre.zip ns).all (fun z => fitB z.1 (tgAt ts' z.2) t) = true)) y.ps [] _ b (by simpa using p3) ⟨rs, ts, [], none, none, none, rfl, hP, by simp, by simp, fun i h => (nomatch h), fun _ => rfl⟩ (by omega) (fun p hp pre ρ b hpre i hb => ?_) (fun ρ b2 i h2 => ?_)
  · obtain ⟨rs', ts', ns, x1, x2, x3, rfl, hP', rl, nl', hn, hz⟩ := i
    have pok := yok.ps p hp
    have tl := hP'.len
    have tl2 : (ts'.map Tg.d).length = ts'.length := List.length_map ..
    refine ⟨parR X y t PD rs' ts' ns (some (.dat p.d)) x2 x3, rfl, fun Q' q' => ?_⟩
    let sm : List Nat := (List.range ts'.length).filter fun i => fitB p (tgAt ts' (i : Nat)) t
    let SM : List D := sm.map fun (i : Nat) => PyData.int ((0 : Int) + i)
    have nsm : nlAll SM = true := by
      have : SM = (sm.map fun (i : Nat) => (0 : Int) + i).map PyData.int := by rw [List.map_map]; rfl
      rw [this]
      exact nlAll_int _
    refine ⟨SM, ?_, nsm, parR X y t PD rs' ts' ns (some (.dat p.d)) (some (.dat (.list SM))) x3, rfl, ?_⟩
    · refine ev_lcE (items := rgD 0 ts'.length) (ev_itG (ds := [.int (ts'.map Tg.d).length]) rfl ((ran1_ok (by omega) (by omega)).trans (by rw [tl2]; rfl))) ?_
      refine ev_lcGF (e := fun (i : Nat) => PyData.int ((0 : Int) + i)) (t := fun (i : Nat) => PyData.int ((0 : Int) + i)) (k := fun (i : Nat) => fitB p (tgAt ts' (i : Nat)) t) (List.range ts'.length) ?_
      intro i hi
      have hi := List.mem_range.mp hi
      obtain ⟨g, hg⟩ : ∃ g, ts'[i]? = some g := ⟨_, List.getElem?_eq_getElem hi⟩
      have eg : tgAt ts' (i : Nat) = g := by
        show (ts'[i]?).getD _ = g
        rw [hg]
        rfl
      refine ⟨_, rfl, ?_, rfl⟩
      rw [eg]
      refine ev_oB (ev_call (ds := [p.d, g.d, .int t]) (ev_cons rfl (ev_cons (ev_e2 (a := .list (ts'.map Tg.d)) (b := .int ((0 : Int) + i)) rfl rfl (by rw [Int.zero_add]; exact at_map hg)) rfl)) rfl (Sem.of (S := SFit) (x := (p, g, t)) ⟨(hX.ks _ pok.k).1, hP'.sk g (List.mem_of_getElem? hg)⟩))
    let FR : List D := (frAll X p t 0 X.ss).map Rw.d
    refine ⟨.list FR, ev_call (ds := [X.d, p.d, .int t]) rfl rfl (Sem.of (S := SFre) (x := (X, p, t)) ⟨hX, pok, t0, by omega⟩), parR X y t PD rs' ts' ns (some (.dat p.d)) (some (.dat (.list SM))) (some (.dat (.list FR))), rfl, ?_⟩
    have frl : FR.length ≤ 1000 := by
      have key : ∀ (rs : List Sr) (j : Nat), (frAll X p t j rs).length ≤ 21 * rs.length := fun rs => by
        induction rs with
        | nil => intro j; exact Nat.zero_le _
        | cons r rs ih =>
          intro j
          have := ih (j + 1)
          have h1 := (frOne_len (X := X) (t := t) (j := j) (r := r) pok.lg pok.l0 pok.g1).1
          show (frOne X p t j r ++ frAll X p t (j + 1) rs).length ≤ _
          rw [List.length_append, List.length_cons]
          omega
      have := key X.ss 0
      have := hX.sl
      show ((frAll X p t 0 X.ss).map Rw.d).length ≤ 1000
      rw [List.length_map]
      omega
    have sml : SM.length ≤ 1000 := by
      show (sm.map _).length ≤ 1000
      rw [List.length_map]
      have := List.length_filter_le (fun i => fitB p (tgAt ts' ((i : Nat) : Int)) t) (List.range ts'.length)
      rw [List.length_range] at this
      show sm.length ≤ 1000
      have : sm.length ≤ ts'.length := this
      omega
    let Ap : Rho := parR X y t PD rs' ts' ns (some (.dat p.d)) (some (.dat (.list SM))) (some (.dat (.list FR)))
    have thn : SM.isEmpty = false → ∀ b', b ≤ b' + 1 → WP.w (swApp 7 (wCons (wCall 0 1 gOne (wCons (wP (eVar 9)) wNil)) wNil)) Ap b' Q' := fun hne b' hb' => by
      refine ⟨ns.map PyData.int, rfl, wOne (items := SM) rfl rfl rfl ?_ sml (by omega) fun d n' dm hn' => ⟨[d], rfl, d, rfl, ?_, ?_⟩⟩
      · cases h : SM with
        | nil => rw [h] at hne; cases hne
        | cons _ _ => simp
      · exact Nat.lt_of_lt_of_le (show (ns.map PyData.int).length < 1001 by rw [List.length_map]; omega) (by decide)
      · obtain ⟨i, hi, rfl⟩ := List.mem_map.mp dm
        obtain ⟨hi, hf⟩ := List.mem_filter.mp hi
        have hi := List.mem_range.mp hi
        refine q' _ n' ⟨rs', ts', ns ++ [(0 : Int) + i], some (.dat p.d), some (.dat (.list SM)), some (.dat (.list FR)), ?_, hP', by rw [List.length_append]; omega, by rw [List.length_append, List.length_append]; simp; omega, fun j hj => ?_, fun hl => ?_⟩ (by omega)
        · show [some LV.pool, _, _, _, _, _, _, some (LV.own (ns.map PyData.int ++ [PyData.int ((0 : Int) + i)])), _, _, _, _] = _
          unfold parR
          rw [List.map_append]
          rfl
        · rcases List.mem_append.mp hj with hj | hj
          · exact hn j hj
          · rw [List.mem_singleton.mp hj]; omega
        · rw [List.length_append, List.length_append] at hl
          have hl : ns.length = pre.length := by simpa using hl
          rw [List.zip_append hl.symm, List.all_append, hz hl]
          show (true && (fitB p (tgAt ts' ((0 : Int) + i)) t && true)) = true
          rw [Int.zero_add, hf]
          rfl
    have els : ∀ b', b ≤ b' + 1 → WP.w (swIf (wP (oB (e2 neZ (eVar 10) (eLst aNil)))) (swSeq (swApp 5 (wCons (wCall 0 1 gOne (wCons (wP (eVar 10)) wNil)) wNil)) (swSeq (swApp 6 (wCons (wL (eCall (gN 3 SBrn.f) (aCons (eVar 1) (aCons (e2 ixD (eVar 5) (e1 negD (eC (.int 1)))) (aCons (eVar 6) aNil))))) wNil)) (swApp 7 (wCons (wL (e2 subD (eCall lenD (aCons (eVar 6) aNil)) (eC (.int 1)))) wNil)))) swNil) Ap b' Q' := fun b' hb' => by
      refine ⟨!FR.isEmpty, rfl, iteB (fun hne => ?_) (fun _ => ?_)⟩
      · refine ⟨rs'.map Rw.d, rfl, wOne (items := FR) rfl rfl rfl ?_ frl (by omega) fun d n' dm hn' => ⟨[d], rfl, d, rfl, ?_, ?_⟩⟩
        · cases h : FR with
          | nil => rw [h] at hne; cases hne
          | cons _ _ => simp
        · exact Nat.lt_of_lt_of_le (show (rs'.map Rw.d).length < 1001 by rw [List.length_map]; omega) (by decide)
        obtain ⟨r, hr, rfl⟩ := List.mem_map.mp dm
        obtain ⟨rg, rsm, rf⟩ := fre_good hX (ts := ts') (show t ≤ 2000000 by omega) hr
        refine ⟨ts'.map Tg.d, rfl, (tgOf ts' r).d, ev_call (ds := [X.d, r.d, .list (ts'.map Tg.d)]) (ev_cons rfl (ev_cons (ev_e2 (a := .list (rs'.map Rw.d ++ [r.d])) (b := .int (-1)) rfl rfl (atI_last (by simp) (by simp))) rfl)) rfl (Sem.of (S := SBrn) (x := (X, ts', r)) ⟨hX, rg.ok⟩), rfl, [(tgOf ts' r).d], rfl, _, rfl, ?_, ?_⟩
        · exact Nat.lt_of_lt_of_le (show (ts'.map Tg.d).length < 1001 by rw [List.length_map]; omega) (by decide)
        refine ⟨ns.map PyData.int, rfl, .int (((ts'.map Tg.d ++ [(tgOf ts' r).d]).length : Int) - 1), rfl, rfl, _, rfl, _, rfl, ?_, ?_⟩
        · exact Nat.lt_of_lt_of_le (show (ns.map PyData.int).length < 1001 by rw [List.length_map]; omega) (by decide)
        have ln : ((ts'.map Tg.d ++ [(tgOf ts' r).d]).length : Int) - 1 = ts'.length := by
          rw [List.length_append, List.length_map]
          simp
        refine q' _ n' ⟨rs' ++ [r], ts' ++ [tgOf ts' r], ns ++ [(ts'.length : Int)], some (.dat p.d), some (.dat (.list SM)), some (.dat (.list FR)), ?_, hP'.snoc hX rg rsm, by rw [List.length_append, List.length_append]; simp; omega, by rw [List.length_append, List.length_append]; simp; omega, fun j hj => ?_, fun hl => ?_⟩ (by omega)
        · rw [ln]
          show [some LV.pool, _, _, _, _, some (LV.own (rs'.map Rw.d ++ [r.d])), some (LV.own (ts'.map Tg.d ++ [(tgOf ts' r).d])), some (LV.own (ns.map PyData.int ++ [PyData.int (ts'.length : Int)])), _, _, _, _] = _
          unfold parR
          rw [List.map_append, List.map_append, List.map_append]
          rfl
        · rw [List.length_append, List.length_singleton]
          rcases List.mem_append.mp hj with hj | hj
          · have := hn j hj; omega
          · rw [List.mem_singleton.mp hj]; omega
        · rw [List.length_append, List.length_append] at hl
          have hl : ns.length = pre.length := by simpa using hl
          rw [List.zip_append hl.symm, List.all_append, fits_app hn, hz hl]
          show (true && (fitB p (tgAt (ts' ++ [tgOf ts' r]) (ts'.length : Int)) t && true)) = true
          rw [tgAt_last, rf]
          rfl
      · refine q' _ b' ⟨rs', ts', ns, some (.dat p.d), some (.dat (.list SM)), some (.dat (.list FR)), rfl, hP', by rw [List.length_append]; omega, by rw [List.length_append]; omega, hn, fun hl => ?_⟩ (by omega)
        rw [List.length_append] at hl
        simp at hl
        omega
    refine ⟨!SM.isEmpty, rfl, iteB (fun hne => ?_) (fun _ => els b (by omega))⟩
    have hne : SM.isEmpty = false := by simpa using hne
    refine ⟨FR.isEmpty, rfl, iteB (fun _ => thn hne b (by omega)) (fun _ => ?_)⟩
    refine wNext (m := 3) rfl rfl (by decide) (by decide) (by omega) fun v b1 v0 v1 h1 => ⟨.int 0, rfl, _, rfl, _, rfl, ?_⟩
    exact iteB (c := decide (v > 0)) (fun _ => thn hne b1 (by omega)) (fun _ => els b1 (by omega))
  · obtain ⟨rs', ts', ns, x1, x2, x3, rfl, hP', rl, nl', hn, hz⟩ := i
    rw [List.nil_append] at rl nl' hz
    have pl : (y.ps.map Pt.d).length = y.ps.length := List.length_map ..
    have nll : (ns.map PyData.int).length = ns.length := List.length_map ..
    refine ⟨decide (((ns.map PyData.int).length : Int) < (y.ps.map Pt.d).length), rfl, ?_⟩
    rw [pl, nll]
    refine iteB (fun hlt => ?_) (fun hlt => ?_)
    · exact ⟨.none, rfl, q _ b2 ⟨X, y, t, _, _, rfl, .inl rfl⟩ (by omega)⟩
    · have hlt := of_decide_eq_false hlt
      have hl : ns.length = y.ps.length := by omega
      refine ⟨_, rfl, q _ b2 ⟨X, y, t, _, _, rfl, .inr ⟨rs', ts', ns, rfl, hP', by rw [List.length_map]; omega, hl, hn, hz hl⟩⟩ (by omega)⟩
end
end Dl
namespace Dl
open PySem PySem.Spec PyProof.Rows L2 Rt
def gPaper : GF := gAny 140 (fun ds => ∃ X N, ds = [Wd.d X, .int N] ∧ X.ok ∧ 0 ≤ N ∧ N ≤ 14) (fun ds d => ∃ X N rs ts, ds = [Wd.d X, .int N] ∧ d = .list [.list (rs.map Rw.d), .list (ts.map Tg.d)] ∧ Pap X rs ts ∧ rs.length ≤ 56)
def pprR (X : Wd) (NN : Int) (rs : List Rw) (ts : List Tg) (c : Int) (a b d e f g h : Option LV) : Rho := [some .pool, some (.dat X.d), some (.dat (.int NN)), some (.dat (.list [.list (rs.map Rw.d), .list (ts.map Tg.d)])), some (.dat (.int c)), a, b, d, e, f, g, h, none, none]
theorem most_bd (B : Int) : ∀ (xs : List Int) (x : Int), x ≤ B → (∀ y ∈ xs, y ≤ B) → x ≤ xs.foldl (fun a b => if b > a then b else a) x ∧ xs.foldl (fun a b => if b > a then b else a) x ≤ B
  | [], x, h, _ => ⟨Int.le_refl _, h⟩
  | y :: xs, x, h, hs => by
    have hy := hs y (by simp)
    obtain ⟨h1, h2⟩ := most_bd B xs (if y > x then y else x) (by split <;> omega) fun z hz => hs z (by simp [hz])
    refine ⟨?_, h2⟩
    show x ≤ xs.foldl (fun a b => if b > a then b else a) (if y > x then y else x)
    split at h1 <;> rename_i hyx
    · rw [if_pos hyx]; omega
    · rw [if_neg hyx]; exact h1
theorem ev_tupX {g : Rho → Option (List D)} {ρ : Rho} {ds : List D} (h : g ρ = some ds) (hl : ds.length ≤ 1000) : eTup g ρ = some (.tuple ds) := by
  unfold eTup
  rw [h]
  exact if_pos (sz (by omega))
theorem wIfAO {A B : Rho → Option Bool} {h : WP Bool} {T E : WP Out} {ρ : Rho} {b : Nat} {Q : Out → Nat → Prop} {x z : Bool} (Bn : Nat → Prop) (hA : A (shutR true ρ) = some x) (hB : B (shutR true ρ) = some z) (b0 : Bn b) (hh : h.w ρ b fun _ b' => Bn b') (thn : x = true → ∀ b', Bn b' → T.w ρ b' Q) (els : ∀ b', Bn b' → E.w ρ b' Q) : (swIf (wAnd (wP A) (wOr (wP B) h)) T E).w ρ b Q := by
  refine ⟨x, hA, ?_⟩
  cases x with
  | false => exact els b b0
  | true =>
    refine ⟨z, hB, ?_⟩
    cases z with
    | true => exact thn rfl b b0
    | false =>
      refine h.m (fun k b' hb => ?_) hh
      cases k with
      | true => exact thn rfl b' hb
      | false => exact els b' hb
def fsI (X : Wd) (i : Nat) : Int := ((X.ss[i]?).map (fstI X)).getD 0
theorem fst_bd {X : Wd} (hX : X.ok) {r : Sr} (h : r ∈ X.ss) : 0 ≤ fstI X r ∧ fstI X r ≤ 1000005 ∧ r.s ≤ fstI X r ∧ fstI X r % X.n = r.p := by
  have rok := hX.ss r h
  have n1 := hX.n1
  have n6 := hX.n6
  have s0 := rok.s0; have s1 := rok.s1
  have q0 := Int.emod_nonneg (r.p - r.s) (show X.n ≠ 0 by omega)
  have q1 := Int.emod_lt_of_pos (r.p - r.s) (show 0 < X.n by omega)
  refine ⟨?_, ?_, ?_, fst_mod rok.p0 rok.p1⟩ <;> (unfold fstI; omega)
section
variable {P : Program} {w : World} {K : PySem.W.Frag} {mg : Str → Option Value} {base : Heap}
theorem ok_ppr {f : Addr} {fd : FuncData} (F : Fun K "_law_paper" "_law_paper" s_law_paper f fd) (m_max : mg "max" = none) (m_range : mg "range" = none) (m_len : mg "len" = none) (m_list : mg "list" = none) (C__law_next : Cl P w K mg base 1 "_law_next" ["_law_drawn", "_law_below"] (spN 1 gNext)) (C__law_first : Cl P w K mg base 1 "_law_first" ["_law_world_here", "_law_number"] (spD 2 SFst.f)) (C__law_born : Cl P w K mg base 1 "_law_born" ["_law_world_here", "_law_row", "_law_found"] (spD 3 SBrn.f)) (C__law_parts : Cl P w K mg base 3 "_law_parts" ["_law_drawn", "_law_world_here", "_law_way_here", "_law_moment", "_law_paper_here"] (spN 4 gParts)) : FnOk P w K mg base CX0 4 f fd ["_law_drawn", "_law_world_here", "_law_many"] (spN 2 gPaper) := by
  refine okFnN F sc_law_paper rfl fun cdv A outer s H E hr => ⟨_, (nSs_cons (nS_asg (K := K) (p := .nm 3) (ps_set (i := 3) sc_law_paper.nd rfl (.inl rfl) (nE_pure (dE_lst (dA_cons (dE_lst (dA_nil (μ := true))) (dA_cons (dE_lst (dA_nil (μ := true))) (dA_nil (μ := true))))))))
  (nSs_cons (nS_asg (K := K) (p := .nm 4) (ps_set (i := 4) sc_law_paper.nd rfl (.inl rfl) (nE_pure (dE_callB (c_maxL rfl) (by rfl) m_max (by decide +kernel) (dA_cons (dE_op o_add (dE_lst (dA_cons (dE_c (μ := true) pe_int) (dA_nil (μ := true)))) (dE_lc (K := K) (p := (.nm 12)) (pe_lc (own := [("_law_k", 12)]) (g := gP K (.nm 12)) rfl sc_law_paper.nd (dI_ran1 (by rfl) m_range (dA_cons (dE_callB c_len (by rfl) m_len (by decide +kernel) (dA_cons (dE_ix (dE_var (μ := true) (pv 1)) (dE_c (μ := true) pe_int)) (dA_nil (μ := true)))) (dA_nil (μ := true)))) (blkOk_by (own := [("_law_k", 12)]) (N := ["_law_drawn", "_law_world_here", "_law_many", "_law_paper_here", "_law_clock", "_law_turn", "_law_number", "_law_row", "_law_way_here", "_law_some", "_law_moments", "_law_more", "_law_k", "_law_one_here"]) (sc := defScope s_law_paper) (by decide +kernel)) (fun _ _ _ _ _ => (pg_name (i := 12) sc_law_paper.nd rfl (.inl rfl))) (fun _ _ _ _ _ => dTs_nil) (fun _ _ _ _ _ => (dE_cl C__law_first (hr.mono (by omega)) (by rfl) (dA_cons (dE_var (μ := true) (pv 1)) (dA_cons (dE_var (μ := true) (pv 12)) (dA_nil (μ := true))))))))) (dA_nil (μ := true)))))))
  (nSs_cons (nS_for (K := K) (p := (.nm 5)) (ps_for PassesOwn.never rfl (nI_pure (dI_ran1 (by rfl) m_range (dA_cons (dE_var (μ := true) (pv 2)) (dA_nil (μ := true))))) (pg_name (i := 5) sc_law_paper.nd rfl (.inl rfl))
    (nSs_cons (nS_asg (K := K) (p := .nm 4) (ps_set (i := 4) sc_law_paper.nd rfl (.inl rfl) (nE_op o_add (nE_pure (dE_var (μ := true) (pv 4))) (nE_draw C__law_next (hr.mono (by omega)) (by rfl) (pv 0) (nA_cons (nE_pure (dE_c (μ := true) pe_int)) nA_nil)))))
  (nSs_one (nS_if (PW.pt (nW_and (nT_pure (dT_cmp (o_neZ hr.units) (dE_ix (dE_var (μ := true) (pv 1)) (dE_c (μ := true) pe_int)) (dE_tup (dA_nil (μ := true))) (nomark _))) (nW_and1 (PW.pt (nW_or (nT_pure (dT_cmp (o_eqZ hr.units) (dE_ix (dE_var (μ := true) (pv 1)) (dE_c (μ := true) pe_int)) (dE_tup (dA_nil (μ := true))) (nomark _))) (nW_or1 (nT_cmp (o_eqZ hr.units) (nE_draw C__law_next (hr.mono (by omega)) (by rfl) (pv 0) (nA_cons (nE_pure (dE_c (μ := true) pe_int)) nA_nil)) (nE_pure (dE_c (μ := true) pe_int)) (nomark _))))))))
    (nSs_cons (nS_asg (K := K) (p := .nm 6) (ps_set (i := 6) sc_law_paper.nd rfl (.inl rfl) (nE_draw C__law_next (hr.mono (by omega)) (by rfl) (pv 0) (nA_cons (nE_pure (dE_callB c_len (by rfl) m_len (by decide +kernel) (dA_cons (dE_ix (dE_var (μ := true) (pv 1)) (dE_c (μ := true) pe_int)) (dA_nil (μ := true))))) nA_nil))))
  (nSs_cons (nS_asg (K := K) (p := .nm 7) (ps_set (i := 7) sc_law_paper.nd rfl (.inl rfl) (nE_tup (nA_cons (nE_pure (dE_c (μ := true) pe_str)) (nA_cons (nE_pure (dE_var (μ := true) (pv 6))) (nA_cons (nE_op o_add (nE_pure (dE_cl C__law_first (hr.mono (by omega)) (by rfl) (dA_cons (dE_var (μ := true) (pv 1)) (dA_cons (dE_var (μ := true) (pv 6)) (dA_nil (μ := true)))))) (nE_op o_mulX (nE_pure (dE_ix (dE_var (μ := true) (pv 1)) (dE_c (μ := true) pe_int))) (nE_draw C__law_next (hr.mono (by omega)) (by rfl) (pv 0) (nA_cons (nE_pure (dE_c (μ := true) pe_int)) nA_nil)))) nA_nil))))))
  (nSs_one (nS_asg (K := K) (p := .nm 3) (ps_set (i := 3) sc_law_paper.nd rfl (.inl rfl) (nE_pure (dE_lst (dA_cons (dE_op o_add (dE_ix (dE_var (μ := true) (pv 3)) (dE_c (μ := true) pe_int)) (dE_lst (dA_cons (dE_var (μ := true) (pv 7)) (dA_nil (μ := true))))) (dA_cons (dE_op o_add (dE_ix (dE_var (μ := true) (pv 3)) (dE_c (μ := true) pe_int)) (dE_lst (dA_cons (dE_cl C__law_born (hr.mono (by omega)) (by rfl) (dA_cons (dE_var (μ := true) (pv 1)) (dA_cons (dE_var (μ := true) (pv 7)) (dA_cons (dE_lst (dA_nil (μ := true))) (dA_nil (μ := true)))))) (dA_nil (μ := true))))) (dA_nil (μ := true)))))))))))
    (nSs_one (nS_if (nT_pure (dT_cmp (o_neZ hr.units) (dE_ix (dE_var (μ := true) (pv 1)) (dE_c (μ := true) pe_int)) (dE_tup (dA_nil (μ := true))) (nomark _)))
    (nSs_cons (nS_asg (K := K) (p := .nm 6) (ps_set (i := 6) sc_law_paper.nd rfl (.inl rfl) (nE_draw C__law_next (hr.mono (by omega)) (by rfl) (pv 0) (nA_cons (nE_pure (dE_callB c_len (by rfl) m_len (by decide +kernel) (dA_cons (dE_ix (dE_var (μ := true) (pv 1)) (dE_c (μ := true) pe_int)) (dA_nil (μ := true))))) nA_nil))))
  (nSs_cons (nS_asg (K := K) (p := .nm 8) (ps_set (i := 8) sc_law_paper.nd rfl (.inr rfl) (nE_pure (dE_ix (dE_ix (dE_var (μ := true) (pv 1)) (dE_c (μ := true) pe_int)) (dE_var (μ := true) (pv 6))))))
  (nSs_cons (nS_asg (K := K) (p := .nm 9) (ps_set (i := 9) sc_law_paper.nd rfl (.inl rfl) (nE_pure (dE_lstRg2 rfl (by rfl) m_list (by rfl) m_range (dE_var (μ := true) (pv 4)) (dE_op o_add (dE_var (μ := true) (pv 4)) (dE_ix (dE_var (μ := true) (pv 1)) (dE_c (μ := true) pe_int)))))))
  (nSs_cons (nS_lcL (K := K) (p := (.nm 13)) (ps_setLc (i := 10) (own := [("_law_one_here", 13)]) (g := gP K (.nm 13)) rfl sc_law_paper.nd rfl rfl (sw_true rfl rfl rfl (by decide +kernel)) (dI_seq (dE_var (μ := true) (pv 9))) (blkOk_by (own := [("_law_one_here", 13)]) (N := ["_law_drawn", "_law_world_here", "_law_many", "_law_paper_here", "_law_clock", "_law_turn", "_law_number", "_law_row", "_law_way_here", "_law_some", "_law_moments", "_law_more", "_law_k", "_law_one_here"]) (sc := defScope s_law_paper) (by decide +kernel)) (fun _ _ _ _ _ => (pg_name (i := 13) sc_law_paper.nd rfl (.inl rfl))) (fun _ _ _ _ _ => (pts_one (dT_cmp (o_in (u65 hr)) (dE_op o_mod (dE_var (μ := true) (pv 13)) (dE_ix (dE_var (μ := true) (pv 1)) (dE_c (μ := true) pe_int))) (dE_ix (dE_var (μ := true) (pv 8)) (dE_c (μ := true) pe_int)) (by rfl)))) (fun _ _ _ _ _ => (dE_var (μ := true) (pv 13)))))
  (nSs_cons (nS_asg (K := K) (p := .nm 11) (ps_set (i := 11) sc_law_paper.nd rfl (.inl rfl) (nE_pure (dE_c (μ := true) pe_non))))
  (nSs_cons (nS_if (nT_pure (dT_cmp (o_neZ hr.units) (dE_var (μ := true) (pv 10)) (dE_lst (dA_nil (μ := true))) (nomark _)))
    (nSs_one (nS_asg (K := K) (p := .nm 11) (ps_set (i := 11) sc_law_paper.nd rfl (.inl rfl) (nE_draw C__law_parts (hr.mono (by omega)) (by rfl) (pv 0) (nA_cons (nE_pure (dE_var (μ := true) (pv 1))) (nA_cons (nE_pure (dE_var (μ := true) (pv 8))) (nA_cons (nE_pure (dE_ix (dE_var (μ := true) (pv 10)) (dE_c (μ := true) pe_int))) (nA_cons (nE_pure (dE_var (μ := true) (pv 3))) nA_nil))))))))
    nSs_nil)
  (nSs_one (nS_if (nT_pure (dT_cmp o_isnot (dE_var (μ := true) (pv 11)) (dE_c (μ := true) pe_non) (nomark _)))
    (nSs_cons (nS_asg (K := K) (p := .nm 7) (ps_set (i := 7) sc_law_paper.nd rfl (.inl rfl) (nE_pure (dE_tup (dA_cons (dE_c (μ := true) pe_str) (dA_cons (dE_var (μ := true) (pv 6)) (dA_cons (dE_ix (dE_var (μ := true) (pv 10)) (dE_c (μ := true) pe_int)) (dA_cons (dE_ix (dE_var (μ := true) (pv 11)) (dE_c (μ := true) pe_int)) (dA_nil (μ := true))))))))))
  (nSs_one (nS_asg (K := K) (p := .nm 3) (ps_set (i := 3) sc_law_paper.nd rfl (.inl rfl) (nE_pure (dE_lst (dA_cons (dE_op o_add (dE_ix (dE_var (μ := true) (pv 11)) (dE_c (μ := true) pe_int)) (dE_lst (dA_cons (dE_var (μ := true) (pv 7)) (dA_nil (μ := true))))) (dA_cons (dE_op o_add (dE_ix (dE_var (μ := true) (pv 11)) (dE_c (μ := true) pe_int)) (dE_lst (dA_cons (dE_cl C__law_born (hr.mono (by omega)) (by rfl) (dA_cons (dE_var (μ := true) (pv 1)) (dA_cons (dE_var (μ := true) (pv 7)) (dA_cons (dE_ix (dE_var (μ := true) (pv 11)) (dE_c (μ := true) pe_int)) (dA_nil (μ := true)))))) (dA_nil (μ := true))))) (dA_nil (μ := true))))))))))
    nSs_nil))))))))
    nSs_nil)))))))
  (nSs_one (nS_retL (ps_ret (dE_var (μ := true) (pv 3)))))))), fun ds b Q l h => ?_⟩
  obtain ⟨⟨X, NN, rfl, hX, N0, N14⟩, hb, q⟩ := h
  have n1 := hX.n1
  have n6 := hX.n6
  have sl := hX.sl
  have wl := hX.wl
  have el : (X.ss.map Sr.d).length = X.ss.length := List.length_map ..
  have ewl : (X.ws.map Wy.d).length = X.ws.length := List.length_map ..
  refine ⟨.list [.list [], .list []], rfl, [some .pool, some (.dat X.d), some (.dat (.int NN)), some (.dat (.list [.list [], .list []])), none, none, none, none, none, none, none, none, none, none], rfl, ?_⟩
  let fs : List Int := (List.range X.ss.length).map (fsI X)
  have fsb : ∀ y ∈ fs, y ≤ 1000005 := fun y hy => by
    obtain ⟨i, hi, rfl⟩ := List.mem_map.mp hy
    have hi := List.mem_range.mp hi
    unfold fsI
    rw [List.getElem?_eq_getElem hi]
    exact (fst_bd hX (List.getElem_mem hi)).2.1
  let c0 : Int := fs.foldl (fun a b => if b > a then b else a) 0
  have cb := most_bd 1000005 fs 0 (by decide) fsb
  refine ⟨.int c0, ?_, pprR X NN [] [] c0 none none none none none none none, rfl, ?_⟩
  · have e1 : maxLD [.list (.int 0 :: fs.map PyData.int)] = some (.int c0) := by
      show ((intsD ((0 :: fs).map PyData.int)).bind mostI).map PyData.int = _
      rw [intsD.map]
      rfl
    have el2 : eLc true [12] (itG ran1D (aCons (eCall lenD (aCons (e2 ixD (eVar 1) (eC (.int 2))) aNil)) aNil)) (.nm 12) oYes (eCall (gN 2 SFst.f) (aCons (eVar 1) (aCons (eVar 12) aNil))) [some .pool, some (.dat X.d), some (.dat (.int NN)), some (.dat (.list [.list [], .list []])), none, none, none, none, none, none, none, none, none, none] = some (.list (fs.map PyData.int)) := by
      refine ev_lcE (items := rgD 0 X.ss.length) (ev_itG (ds := [.int (X.ss.map Sr.d).length]) rfl ((ran1_ok (by omega) (by omega)).trans (by rw [el]; rfl))) ?_
      show _ = some (((List.range X.ss.length).map (fsI X)).map PyData.int)
      rw [List.map_map]
      refine ev_lcG (e := fun (i : Nat) => PyData.int ((0 : Int) + i)) (t := PyData.int ∘ fsI X) (List.range X.ss.length) ?_
      intro i hi
      have hi := List.mem_range.mp hi
      obtain ⟨r, hr⟩ : ∃ r, X.ss[i]? = some r := ⟨_, List.getElem?_eq_getElem hi⟩
      refine ⟨_, rfl, ?_⟩
      show _ = some (PyData.int (fsI X i))
      unfold fsI
      rw [hr]
      refine ev_call (ds := [X.d, .int ((0 : Int) + i)]) rfl rfl ?_
      rw [Int.zero_add]
      exact Sem.of (S := SFst) (x := (X, i, r)) ⟨hX, hr⟩
    show eCall maxLD _ _ = _
    unfold eCall
    refine (congrArg (fun o : Option (List D) => o.bind maxLD) (ev_cons (ds := []) (ev_e2 (a := .list [.int 0]) (b := .list (fs.map PyData.int)) rfl el2 (add_lst (sz ?_))) rfl)).trans e1
    rw [List.length_map, List.length_map, List.length_range, List.length_singleton]
    omega
  refine ⟨rgD 0 NN.toNat, ev_itG (ds := [.int NN]) rfl (ran1_ok (by omega) (by omega)), forN_cost NN.toNat 10 (fun k ρ => ∃ rs ts c x1 x2 x3 x4 x5 x6 x7, ρ = pprR X NN rs ts c x1 x2 x3 x4 x5 x6 x7 ∧ Pap X rs ts ∧ rs.length ≤ 4 * k ∧ 0 ≤ c ∧ c ≤ 1000005 + 6 * k) (rgD 0 NN.toNat) 0 _ b (by rw [rgD_len]; omega) ⟨[], [], c0, none, none, none, none, none, none, none, rfl, .nil X, by simp, cb.1, by have := cb.2; omega⟩ (by rw [rgD_len]; omega) (fun x hx k ρ b hk i hb => ?_) (fun ρ b2 i h2 => ?_)⟩
  · obtain ⟨rs, ts, c, x1, x2, x3, x4, x5, x6, x7, rfl, hP, rl, c00, c1⟩ := i
    obtain ⟨tn, ht, rfl⟩ := List.mem_map.mp hx
    have tl := hP.len
    let TN : Option LV := some (.dat (.int (0 + tn)))
    refine ⟨pprR X NN rs ts c TN x2 x3 x4 x5 x6 x7, rfl, fun Q' q' => ?_⟩
    refine ⟨.int c, rfl, wNext (m := 6) rfl rfl (by decide) (by decide) (by omega) fun v1 b1 v10 v11 h1 => ⟨.int (c + v1), rfl, pprR X NN rs ts (c + v1) TN x2 x3 x4 x5 x6 x7, rfl, ?_⟩⟩
    have addL : ∀ {a : List D} {x : D}, a.length ≤ 100 → addD (.list a) (.list [x]) = some (.list (a ++ [x])) := fun h => add_lst (sz (by simp; omega))
    have rl1 : (rs.map Rw.d).length ≤ 100 := by rw [List.length_map]; omega
    have tl1 : (ts.map Tg.d).length ≤ 100 := by rw [List.length_map]; omega
    refine wIfAO (x := !(X.ss.map Sr.d).isEmpty) (z := (X.ws.map Wy.d).isEmpty) (fun b' => b ≤ b' + 2) rfl rfl (by omega) (wNext (m := 4) rfl rfl (by decide) (by decide) (by omega) fun v b4 v0 v1' h4 => ⟨.int 0, rfl, _, rfl, _, rfl, by omega⟩) (fun hne b' hb' => ?_) (fun b' hb' => ?_)
    · have s0 : 0 < X.ss.length := by
        cases h : X.ss with
        | nil => rw [h] at hne; cases hne
        | cons _ _ => simp
      refine wNext (m := (X.ss.map Sr.d).length) rfl rfl (by omega) (by omega) (by omega) fun v2 b2 v20 v21 h2 => ⟨pprR X NN rs ts (c + v1) TN (some (.dat (.int v2))) x3 x4 x5 x6 x7, rfl, ?_⟩
      obtain ⟨j, rfl⟩ : ∃ j : Nat, v2 = j := ⟨v2.toNat, by omega⟩
      obtain ⟨r, hr⟩ : ∃ r, X.ss[j]? = some r := ⟨_, List.getElem?_eq_getElem (by omega)⟩
      have fb := fst_bd hX (List.mem_of_getElem? hr)
      refine ⟨S "brought", rfl, .int j, rfl, .int (fstI X r), ev_call (ds := [X.d, .int j]) rfl rfl (Sem.of (S := SFst) (x := (X, j, r)) ⟨hX, hr⟩), .int X.n, rfl, wNext (m := 5) rfl rfl (by decide) (by decide) (by omega) fun v3 b3 v30 v31 h3 => ?_⟩
      have m0 : 0 ≤ X.n * v3 := Int.mul_nonneg (by omega) v30
      have m1 : X.n * v3 ≤ 6 * 4 := Int.le_trans (Int.mul_le_mul_of_nonneg_right n6 v30) (by omega)
      let t : Int := fstI X r + X.n * v3
      refine ⟨.int (X.n * v3), if_pos (Or.inl ⟨by omega, by omega⟩), .int t, rfl, [.int t], rfl, [.int j, .int t], rfl, [S "brought", .int j, .int t], rfl, (Rw.br j r t).d, rfl, pprR X NN rs ts (c + v1) TN (some (.dat (.int j))) (some (.dat (Rw.br j r t).d)) x4 x5 x6 x7, rfl, ?_⟩
      have rg : (Rw.br j r t).good X ts := ⟨hr, by show 0 ≤ t; omega, by show t ≤ 3000000000000000; omega, by
        have e1 : t % X.n = r.p := by
          show (fstI X r + X.n * v3) % X.n = r.p
          rw [Int.add_mul_emod_self_left]
          exact fb.2.2.2
        rw [e1, decide_eq_true (show t ≥ r.s by omega), beq_self_eq_true]
        rfl⟩
      have rsm : (Rw.br j r t).sm := ⟨by omega, by omega, by omega⟩
      have eb := Sem.of (S := SBrn) (x := (X, [], .br j r t)) ⟨hX, hr⟩
      have ex : ∀ (ρ : Rho), ρ = pprR X NN rs ts (c + v1) TN (some (.dat (.int j))) (some (.dat (Rw.br j r t).d)) x4 x5 x6 x7 → eLst (aCons (e2 addD (e2 ixD (eVar 3) (eC (.int 0))) (eLst (aCons (eVar 7) aNil))) (aCons (e2 addD (e2 ixD (eVar 3) (eC (.int 1))) (eLst (aCons (eCall (gN 3 SBrn.f) (aCons (eVar 1) (aCons (eVar 7) (aCons (eLst aNil) aNil)))) aNil))) aNil)) (shutR true ρ) = some (.list [.list ((rs ++ [Rw.br j r t]).map Rw.d), .list ((ts ++ [tgOf ts (.br j r t)]).map Tg.d)]) := fun ρ hρ => by
        subst hρ
        refine (ev_lstX (ev_cons (ev_e2 (a := .list (rs.map Rw.d)) (b := .list [(Rw.br j r t).d]) rfl rfl (addL rl1)) (ev_cons (ev_e2 (a := .list (ts.map Tg.d)) (b := .list [(tgOf [] (.br j r t)).d]) rfl (ev_lstX (ev_cons (ev_call (ds := [X.d, (Rw.br j r t).d, .list []]) rfl rfl eb) rfl) (by simp)) (addL tl1)) rfl)) (by simp)).trans ?_
        rw [List.map_append, List.map_append]
        rfl
      exact ⟨_, ex _ rfl, pprR X NN (rs ++ [.br j r t]) (ts ++ [tgOf ts (.br j r t)]) (c + v1) TN (some (.dat (.int j))) (some (.dat (Rw.br j r t).d)) x4 x5 x6 x7, rfl, q' _ b3 ⟨_, _, _, _, _, _, _, _, _, _, rfl, hP.snoc hX rg rsm, by rw [List.length_append]; simp; omega, by omega, by omega⟩ (by omega)⟩
    · refine ⟨!(X.ws.map Wy.d).isEmpty, rfl, iteB (fun hne => ?_) (fun _ => ?_)⟩
      · have w0 : 0 < X.ws.length := by
          cases h : X.ws with
          | nil => rw [h] at hne; cases hne
          | cons _ _ => simp
        refine wNext (m := (X.ws.map Wy.d).length) rfl rfl (by omega) (by omega) (by omega) fun v2 b2 v20 v21 h2 => ⟨pprR X NN rs ts (c + v1) TN (some (.dat (.int v2))) x3 x4 x5 x6 x7, rfl, ?_⟩
        obtain ⟨j, rfl⟩ : ∃ j : Nat, v2 = j := ⟨v2.toNat, by omega⟩
        obtain ⟨y, hy⟩ : ∃ y, X.ws[j]? = some y := ⟨_, List.getElem?_eq_getElem (by omega)⟩
        have yok := hX.ws y (List.mem_of_getElem? hy)
        refine ⟨y.d, ev_e2 (a := .tuple (X.ws.map Wy.d)) (b := .int j) rfl rfl (at_map hy), pprR X NN rs ts (c + v1) TN (some (.dat (.int j))) x3 (some (.dat y.d)) x5 x6 x7, rfl, ?_⟩
        let Z : List Int := rgI (c + v1) (c + v1 + X.n - (c + v1)).toNat
        refine ⟨.list (Z.map PyData.int), ?_, pprR X NN rs ts (c + v1) TN (some (.dat (.int j))) x3 (some (.dat y.d)) (some (.dat (.list (Z.map PyData.int)))) x6 x7, rfl, ?_⟩
        · show (if _ then _ else none) = _
          rw [if_pos ⟨by omega, by omega, by omega, by omega, by omega⟩, rgD_I]
        let ms : List Int := Z.filter fun x => y.hs.any (· == x % X.n)
        refine ⟨ms.map PyData.int, ?_, nlAll_int _, pprR X NN rs ts (c + v1) TN (some (.dat (.int j))) x3 (some (.dat y.d)) (some (.dat (.list (Z.map PyData.int)))) (some (.dat (.list (ms.map PyData.int)))) x7, rfl, ?_⟩
        · refine ev_lcE (items := Z.map PyData.int) rfl (ev_lcGF (e := PyData.int) (t := PyData.int) (k := fun x => y.hs.any (· == x % X.n)) Z ?_)
          intro x _
          refine ⟨_, rfl, ev_oB (ev_e2 (a := .int (x % X.n)) (b := .tuple (y.hs.map .int)) (ev_e2 (a := .int x) (b := .int X.n) rfl rfl (if_pos (by omega))) rfl ?_), rfl⟩
          rw [in_tup (ok_int _).1 (okT fun d hd => by
            obtain ⟨i, _, rfl⟩ := List.mem_map.mp hd
            exact ok_int i)]
          congr 2
          rw [List.any_map]
          rfl
        let R : Option LV → Option LV → Rho := fun x7 x3 => pprR X NN rs ts (c + v1) TN (some (.dat (.int j))) x3 (some (.dat y.d)) (some (.dat (.list (Z.map PyData.int)))) (some (.dat (.list (ms.map PyData.int)))) x7
        refine ⟨.none, rfl, R (some (.dat .none)) x3, rfl, ?_⟩
        refine ⟨!(ms.map PyData.int).isEmpty, rfl, ?_⟩
        have fin : ∀ b', b ≤ b' + 10 → Q' (.nx (R (some (.dat .none)) x3)) b' := fun b' hb' => q' _ b' ⟨rs, ts, c + v1, _, _, _, _, _, _, _, rfl, hP, by omega, by omega, by omega⟩ hb'
        refine iteB (fun hne => ?_) (fun _ => ⟨false, rfl, fin b2 (by omega)⟩)
        obtain ⟨m, mr, hms⟩ : ∃ m mr, ms = m :: mr := by
          cases h : ms with
          | nil => rw [h] at hne; cases hne
          | cons m mr => exact ⟨m, mr, rfl⟩
        have mm : m ∈ ms := by rw [hms]; simp
        obtain ⟨mz, mo⟩ := List.mem_filter.mp mm
        obtain ⟨mi, hmi, hme⟩ := List.mem_map.mp mz
        have hmi := List.mem_range.mp hmi
        have mb : 0 ≤ m ∧ m ≤ 1000200 := by omega
        have em : ∀ {x : Option LV}, e2 ixD (eVar 10) (eC (.int 0)) (shutR true (R x x3)) = some (.int m) := fun {x} => ev_e2 (a := .list (ms.map PyData.int)) (b := .int 0) rfl rfl (at_map (j := 0) (by rw [hms]; rfl))
        refine ⟨rfl, X.d, rfl, y.d, rfl, .int m, em, .list [.list (rs.map Rw.d), .list (ts.map Tg.d)], rfl, _, rfl, _, rfl, _, rfl, _, rfl, rfl, ⟨X, y, m, rs, ts, rfl, hX, List.mem_of_getElem? hy, mb.1, by omega, hP, by omega⟩, by omega, fun d b3 pd h3 => ⟨R (some (.dat d)) x3, rfl, ?_⟩⟩
        obtain ⟨X', y', t', L, M, e, pd⟩ := pd
        injection e with e1 e
        injection e with e2' e
        injection e with e3 e
        injection e with e4 e
        cases Wd.inj e1
        cases Wy.inj e2'
        cases int_i e3
        injection e4 with e4
        injection e4 with e4 _
        injection e4 with e4
        subst e4
        rcases pd with rfl | ⟨rs', ts', ns, rfl, hP', rl', nl', hn, hz⟩
        · exact ⟨false, rfl, fin b3 (by omega)⟩
        · rw [List.length_map] at rl'
          have tl' := hP'.len
          let D2 : D := .list [.list (rs'.map Rw.d), .list (ts'.map Tg.d), .tuple (ns.map PyData.int)]
          refine ⟨true, rfl, (Rw.md j y m ns).d, ?_, R (some (.dat D2)) (some (.dat (Rw.md j y m ns).d)), rfl, ?_⟩
          · exact ev_tupX (ds := [S "made", .int j, .int m, .tuple (ns.map PyData.int)]) (ev_cons rfl (ev_cons rfl (ev_cons em rfl))) (by simp)
          have p1 := yok.p1
          have p3 := yok.p3
          have rg : (Rw.md j y m ns).good X ts' := ⟨hy, mb.1, by omega, nl', hn, mo, hz⟩
          have rsm : (Rw.md j y m ns).sm := ⟨by omega, mb.1, by omega, by omega, by omega, fun i hi => by have := hn i hi; omega⟩
          have eb := Sem.of (S := SBrn) (x := (X, ts', .md j y m ns)) ⟨hX, rg.ok⟩
          have ex : eLst (aCons (e2 addD (e2 ixD (eVar 11) (eC (.int 0))) (eLst (aCons (eVar 7) aNil))) (aCons (e2 addD (e2 ixD (eVar 11) (eC (.int 1))) (eLst (aCons (eCall (gN 3 SBrn.f) (aCons (eVar 1) (aCons (eVar 7) (aCons (e2 ixD (eVar 11) (eC (.int 1))) aNil)))) aNil))) aNil)) (shutR true (R (some (.dat D2)) (some (.dat (Rw.md j y m ns).d)))) = some (.list [.list ((rs' ++ [Rw.md j y m ns]).map Rw.d), .list ((ts' ++ [tgOf ts' (.md j y m ns)]).map Tg.d)]) := by
            refine (ev_lstX (ev_cons (ev_e2 (a := .list (rs'.map Rw.d)) (b := .list [(Rw.md j y m ns).d]) rfl rfl (addL (by rw [List.length_map]; omega))) (ev_cons (ev_e2 (a := .list (ts'.map Tg.d)) (b := .list [(tgOf ts' (.md j y m ns)).d]) rfl (ev_lstX (ev_cons (ev_call (ds := [X.d, (Rw.md j y m ns).d, .list (ts'.map Tg.d)]) rfl rfl eb) rfl) (by simp)) (addL (by rw [List.length_map]; omega))) rfl)) (by simp)).trans ?_
            rw [List.map_append, List.map_append]
            rfl
          exact ⟨_, ex, _, rfl, q' _ b3 ⟨rs' ++ [.md j y m ns], ts' ++ [tgOf ts' (.md j y m ns)], c + v1, _, _, _, _, _, _, _, rfl, hP'.snoc hX rg rsm, by rw [List.length_append]; simp; omega, by omega, by omega⟩ (by omega)⟩
      · exact q' _ b' ⟨rs, ts, c + v1, _, _, _, _, _, _, _, rfl, hP, by omega, by omega, by omega⟩ (by omega)
  · obtain ⟨rs, ts, c, x1, x2, x3, x4, x5, x6, x7, rfl, hP, rl, c0, c1⟩ := i
    rw [rgD_len] at rl h2
    exact ⟨_, rfl, q _ b2 ⟨X, NN, rs, ts, rfl, rfl, hP, by omega⟩ (by omega)⟩
end
end Dl
namespace Dl
open PySem PySem.Spec PyProof.Rows L2 Rt
def RB (d : D) : Prop := Bd 0 3 d ∧ d.weight ≤ 400
theorem rb_int {i : Int} (h0 : -3000000000000001 ≤ i) (h1 : i ≤ 3000000000000001) : Bd 0 2 (.int i) ∧ (PyData.int i).weight ≤ 73 := lf_up (lf_int h0 h1) (by decide) (by decide)
theorem rb4 {ds : List D} (hl : ds.length ≤ 3) (h : ∀ d ∈ ds, Bd 0 2 d ∧ d.weight ≤ 73) : RB (.tuple ds) := up2 (bd_tup (l := 3) (c := 73) (n := 2) hl (by decide) h) (Nat.le_refl _) (by decide)
theorem rb5 {a b c : D} {ns : List Int} (ha : Lf a) (hb : Lf b) (hc : Lf c) (nl : ns.length ≤ 3) (hn : ∀ i ∈ ns, -3000000000000001 ≤ i ∧ i ≤ 3000000000000001) : RB (.tuple [a, b, c, .tuple (ns.map PyData.int)]) := by
  have e1 := ints_bd nl (by decide) hn
  refine ⟨⟨by simp, fun d hd => ?_⟩, ?_⟩
  · simp only [List.mem_cons, List.not_mem_nil, or_false] at hd
    rcases hd with rfl | rfl | rfl | rfl
    · exact ha.1.up (Nat.le_refl _) (by decide)
    · exact hb.1.up (Nat.le_refl _) (by decide)
    · exact hc.1.up (Nat.le_refl _) (by decide)
    · exact e1.1
  · have := e1.2
    have h1 := ha.2; have h2 := hb.2; have h3 := hc.2
    show a.weight + 1 + (b.weight + 1 + (c.weight + 1 + ((PyData.tuple (ns.map PyData.int)).weight + 1 + 0))) ≤ 400
    omega
theorem Rw.sm.rb {r : Rw} (h : r.sm) : RB r.d := by
  cases r with
  | br j r t =>
    obtain ⟨j8, t0, t1⟩ := h
    refine rb4 (by simp) fun d hd => ?_
    simp only [List.mem_cons, List.not_mem_nil, or_false] at hd
    rcases hd with rfl | rfl | rfl
    · exact lf_up (lf_S "brought") (by decide) (by decide)
    · exact rb_int (by omega) (by omega)
    · exact rb_int (by omega) (by omega)
  | md j y t ns =>
    obtain ⟨j8, t0, t1, n1, n3, hn⟩ := h
    exact rb5 (lf_S "made") (lf_int (by omega) (by omega)) (lf_int (by omega) (by omega)) n3 fun i hi => by have := hn i hi; omega
def BenP (d : D) : Prop := Bd 1 6 d ∧ d.weight ≤ 60000
theorem ben_tup {ds : List D} (hl : ds.length ≤ 60) (h : ∀ d ∈ ds, RB d) : BenP (.tuple ds) := by
  have e := bd_tup (m := 0) (n := 3) (l := 60) (c := 400) hl (by decide) h
  exact ⟨e.1.up (by decide) (by decide), Nat.le_trans e.2 (by decide)⟩
def gBen : GF := gAny 40 (fun ds => ∃ rs : List Rw, ds = [.tuple (rs.map Rw.d)] ∧ rs.length ≤ 56 ∧ ∀ r ∈ rs, r.sm) (fun ds d => BenP d ∧ ∀ L es, ds = [.tuple L] → d = .tuple es → es.length ≤ L.length + 1)
theorem ev_sl {f : EF} {lo hi : Rho → Option (Option Int)} {ρ : Rho} {d r : D} {l h : Option Int} (h1 : f ρ = some d) (h2 : lo ρ = some l) (h3 : hi ρ = some h) (h4 : slD d l h = some r) : eSl f lo hi ρ = some r := by
  unfold eSl
  rw [h1]
  show (lo ρ).bind _ = _
  rw [h2]
  show (hi ρ).bind _ = _
  rw [h3]
  exact h4
theorem sl_to {xs : List D} {j : Nat} (h : j ≤ xs.length) : slD (.tuple xs) none (some (j : Int)) = some (.tuple (xs.take j)) := by
  show some (PyData.tuple (cutD xs none (some (j : Int)))) = _
  rw [cut_to h]
theorem sl_fr {xs : List D} {j : Nat} (h : j ≤ xs.length) : slD (.tuple xs) (some (j : Int)) none = some (.tuple (xs.drop j)) := by
  show some (PyData.tuple (cutD xs (some (j : Int)) none)) = _
  rw [cut_fr h]
theorem sl_fr1 {xs : List D} {j : Nat} (h : j + 1 ≤ xs.length) : slD (.tuple xs) (some ((j : Int) + 1)) none = some (.tuple (xs.drop (j + 1))) := by
  rw [show ((j : Int) + 1) = ((j + 1 : Nat) : Int) by omega]
  exact sl_fr h
def benR (L : List D) (v : Int) (j : Nat) (a b c : Option LV) : Rho := [some .pool, some (.dat (.tuple L)), some (.dat (.int v)), some (.dat (.int (j : Nat))), a, b, c]
theorem ben_fin {L : List D} {v : Int} {j : Nat} {R : D} {b c : Option LV} (hj : j < L.length) (hl : L.length ≤ 56) : e2 addD (e2 addD (eSl (eVar 1) pNone (pSome (eVar 3))) (eTup (aCons (eVar 4) aNil))) (eSl (eVar 1) (pSome (e2 addD (eVar 3) (eC (.int 1)))) pNone) (shutR false (benR L v j (some (.dat R)) b c)) = some (.tuple (L.take j ++ [R] ++ L.drop (j + 1))) := by
  refine ev_e2 (a := .tuple (L.take j ++ [R])) (b := .tuple (L.drop (j + 1))) (ev_e2 (a := .tuple (L.take j)) (b := .tuple [R]) (ev_sl (d := .tuple L) (h := some (j : Int)) rfl rfl ?_ (sl_to (by omega))) rfl (add_tup (sz (by rw [List.length_take]; simp; omega)))) (ev_sl (d := .tuple L) (l := some ((j : Int) + 1)) rfl ?_ rfl (sl_fr1 (by omega))) (add_tup (sz (by rw [List.length_append, List.length_take, List.length_drop]; simp; omega)))
  · rfl
  · rfl
theorem ben_put {L : List D} {j : Nat} {R : D} (hl : L.length ≤ 56) (h : ∀ d ∈ L, RB d) (hR : RB R) : BenP (.tuple (L.take j ++ [R] ++ L.drop (j + 1))) := by
  refine ben_tup (by rw [List.length_append, List.length_append, List.length_take, List.length_drop]; simp; omega) fun d hd => ?_
  rcases List.mem_append.mp hd with hd | hd
  · rcases List.mem_append.mp hd with hd | hd
    · exact h d (List.mem_of_mem_take hd)
    · rw [List.mem_singleton.mp hd]; exact hR
  · exact h d (List.mem_of_mem_drop hd)
section
variable {P : Program} {w : World} {K : PySem.W.Frag} {mg : Str → Option Value} {base : Heap}
theorem ok_ben {f : Addr} {fd : FuncData} (F : Fun K "_law_bent_paper" "_law_bent_paper" s_law_bent_paper f fd) (m_max : mg "max" = none) (m_len : mg "len" = none) (C__law_next : Cl P w K mg base 1 "_law_next" ["_law_drawn", "_law_below"] (spN 1 gNext)) (C__law_one : Cl P w K mg base 2 "_law_one" ["_law_drawn", "_law_wares"] (spN 1 gOne)) (C__law_spoilt : Cl P w K mg base 15 "_law_spoilt" ["_law_drawn", "_law_thing"] (spN 1 (gSp 12))) : FnOk P w K mg base CX0 16 f fd ["_law_drawn", "_law_rows"] (spN 1 gBen) := by
  refine okFnN F sc_law_bent_paper rfl fun cdv A outer s H E hr => ⟨_, (nSs_cons (nS_par (ps_par (i := 2) (j := 3) (by rfl) sc_law_bent_paper.nd rfl rfl (by decide) rfl rfl (nA_cons (nE_draw C__law_next (hr.mono (by omega)) (by rfl) (pv 0) (nA_cons (nE_pure (dE_c (μ := true) pe_int)) nA_nil)) (nA_cons (nE_draw C__law_next (hr.mono (by omega)) (by rfl) (pv 0) (nA_cons (nE_pure (dE_callB (c_max2 rfl) (by rfl) m_max (by decide +kernel) (dA_cons (dE_c (μ := true) pe_int) (dA_cons (dE_callB c_len (by rfl) m_len (by decide +kernel) (dA_cons (dE_var (μ := true) (pv 1)) (dA_nil (μ := true)))) (dA_nil (μ := true)))))) nA_nil)) nA_nil)) (by rfl)))
  (nSs_cons (nS_if (nT_pure (PW.pt (dW_or (dT_cmp (o_eqZ hr.units) (dE_var (μ := true) (pv 1)) (dE_tup (dA_nil (μ := true))) (nomark _)) (dW_or1 (dT_cmp (o_eqZ hr.units) (dE_var (μ := true) (pv 2)) (dE_c (μ := true) pe_int) (nomark _))))))
    (nSs_one (nS_ret (ps_ret (nE_draw C__law_spoilt (hr.mono (by omega)) (by rfl) (pv 0) (nA_cons (nE_pure (dE_var (μ := true) (pv 1))) nA_nil)))))
    nSs_nil)
  (nSs_cons (nS_asg (K := K) (p := .nm 4) (ps_set (i := 4) sc_law_bent_paper.nd rfl (.inl rfl) (nE_pure (dE_ix (dE_var (μ := true) (pv 1)) (dE_var (μ := true) (pv 3))))))
  (nSs_cons (nS_if (nT_pure (dT_cmp (o_eqZ hr.units) (dE_var (μ := true) (pv 2)) (dE_c (μ := true) pe_int) (nomark _)))
    (nSs_one (nS_retL (ps_ret (dE_op o_add (dE_sl (dE_var (μ := true) (pv 1)) dO_none (dO_some (dE_var (μ := true) (pv 3)))) (dE_sl (dE_var (μ := true) (pv 1)) (dO_some (dE_op o_add (dE_var (μ := true) (pv 3)) (dE_c (μ := true) pe_int))) dO_none)))))
    nSs_nil)
  (nSs_cons (nS_if (nT_pure (dT_cmp (o_eqZ hr.units) (dE_var (μ := true) (pv 2)) (dE_c (μ := true) pe_int) (nomark _)))
    (nSs_one (nS_retL (ps_ret (dE_op o_add (dE_op o_add (dE_sl (dE_var (μ := true) (pv 1)) dO_none (dO_some (dE_var (μ := true) (pv 3)))) (dE_tup (dA_cons (dE_var (μ := true) (pv 4)) (dA_nil (μ := true))))) (dE_sl (dE_var (μ := true) (pv 1)) (dO_some (dE_var (μ := true) (pv 3))) dO_none)))))
    nSs_nil)
  (nSs_cons (nS_if (nT_pure (dT_cmp (o_eqZ hr.units) (dE_var (μ := true) (pv 2)) (dE_c (μ := true) pe_int) (nomark _)))
    (nSs_one (nS_retL (ps_ret (dE_rev (dE_var (μ := true) (pv 1))))))
    nSs_nil)
  (nSs_cons (nS_if (nT_pure (dT_cmp o_lt (dE_var (μ := true) (pv 2)) (dE_c (μ := true) pe_int) (nomark _)))
    (nSs_one (nS_asg (K := K) (p := .nm 4) (ps_set (i := 4) sc_law_bent_paper.nd rfl (.inl rfl) (nE_op o_add (nE_op o_add (nE_pure (dE_sl (dE_var (μ := true) (pv 4)) dO_none (dO_some (dE_c (μ := true) pe_int)))) (nE_tup (nA_cons (nE_op o_add (nE_pure (dE_ix (dE_var (μ := true) (pv 4)) (dE_c (μ := true) pe_int))) (nE_draw C__law_one (hr.mono (by omega)) (by rfl) (pv 0) (nA_cons (nE_pure (dE_lst (dA_cons (dE_c (μ := true) pe_int) (dA_cons (dE_neg (dE_c (μ := true) pe_int)) (dA_cons (dE_c (μ := true) pe_int) (dA_cons (dE_c (μ := true) pe_int) (dA_cons (dE_neg (dE_c (μ := true) pe_int)) (dA_cons (dE_c (μ := true) pe_int) (dA_cons (dE_c (μ := true) pe_int) (dA_nil (μ := true))))))))))) nA_nil))) nA_nil))) (nE_pure (dE_sl (dE_var (μ := true) (pv 4)) (dO_some (dE_c (μ := true) pe_int)) dO_none))))))
    (nSs_one (nS_if (nT_pure (dT_cmp (o_eqZ hr.units) (dE_callB c_len (by rfl) m_len (by decide +kernel) (dA_cons (dE_var (μ := true) (pv 4)) (dA_nil (μ := true)))) (dE_c (μ := true) pe_int) (nomark _)))
    (nSs_cons (nS_asg (K := K) (p := .nm 5) (ps_set (i := 5) sc_law_bent_paper.nd rfl (.inl rfl) (nE_pure (dE_ix (dE_var (μ := true) (pv 4)) (dE_c (μ := true) pe_int)))))
  (nSs_cons (nS_asg (K := K) (p := .nm 6) (ps_set (i := 6) sc_law_bent_paper.nd rfl (.inl rfl) (nE_draw C__law_next (hr.mono (by omega)) (by rfl) (pv 0) (nA_cons (nE_pure (dE_callB c_len (by rfl) m_len (by decide +kernel) (dA_cons (dE_var (μ := true) (pv 5)) (dA_nil (μ := true))))) nA_nil))))
  (nSs_cons (nS_asg (K := K) (p := .nm 5) (ps_set (i := 5) sc_law_bent_paper.nd rfl (.inl rfl) (nE_op o_add (nE_op o_add (nE_pure (dE_sl (dE_var (μ := true) (pv 5)) dO_none (dO_some (dE_var (μ := true) (pv 6))))) (nE_tup (nA_cons (nE_draw C__law_next (hr.mono (by omega)) (by rfl) (pv 0) (nA_cons (nE_pure (dE_callB c_len (by rfl) m_len (by decide +kernel) (dA_cons (dE_var (μ := true) (pv 1)) (dA_nil (μ := true))))) nA_nil)) nA_nil))) (nE_pure (dE_sl (dE_var (μ := true) (pv 5)) (dO_some (dE_op o_add (dE_var (μ := true) (pv 6)) (dE_c (μ := true) pe_int))) dO_none)))))
  (nSs_one (nS_asg (K := K) (p := .nm 4) (ps_set (i := 4) sc_law_bent_paper.nd rfl (.inl rfl) (nE_pure (dE_op o_add (dE_sl (dE_var (μ := true) (pv 4)) dO_none (dO_some (dE_c (μ := true) pe_int))) (dE_tup (dA_cons (dE_var (μ := true) (pv 5)) (dA_nil (μ := true))))))))))))
    (nSs_one (nS_asg (K := K) (p := .nm 4) (ps_set (i := 4) sc_law_bent_paper.nd rfl (.inl rfl) (nE_tup (nA_cons (nE_pure (dE_ix (dE_var (μ := true) (pv 4)) (dE_c (μ := true) pe_int))) (nA_cons (nE_draw C__law_next (hr.mono (by omega)) (by rfl) (pv 0) (nA_cons (nE_pure (dE_c (μ := true) pe_int)) nA_nil)) (nA_cons (nE_pure (dE_ix (dE_var (μ := true) (pv 4)) (dE_c (μ := true) pe_int))) nA_nil))))))))))
  (nSs_one (nS_retL (ps_ret (dE_op o_add (dE_op o_add (dE_sl (dE_var (μ := true) (pv 1)) dO_none (dO_some (dE_var (μ := true) (pv 3)))) (dE_tup (dA_cons (dE_var (μ := true) (pv 4)) (dA_nil (μ := true))))) (dE_sl (dE_var (μ := true) (pv 1)) (dO_some (dE_op o_add (dE_var (μ := true) (pv 3)) (dE_c (μ := true) pe_int))) dO_none)))))))))))), fun ds b Q l h => ?_⟩
  obtain ⟨⟨rs, rfl, r56, hs⟩, hb, q⟩ := h
  let L : List D := rs.map Rw.d
  have ll : L.length = rs.length := List.length_map ..
  have hL : ∀ d ∈ L, RB d := fun d hd => by
    obtain ⟨r, hr, rfl⟩ := List.mem_map.mp hd
    exact (hs r hr).rb
  have bL := bd_tup (m := 0) (n := 3) (l := 56) (c := 400) (by omega) (by decide) hL
  refine wNext (m := 8) rfl rfl (by decide) (by decide) (by omega) fun v b1 v0 v1 h1 => ?_
  refine wNext (m := if (L.length : Int) > 1 then (L.length : Int) else 1) rfl rfl (by split <;> omega) (by split <;> omega) (by omega) fun u b2 u0 u1 h2 => ?_
  obtain ⟨j, rfl⟩ : ∃ j : Nat, u = j := ⟨u.toNat, by omega⟩
  refine ⟨_, rfl, _, rfl, _, _, rfl, ?_⟩
  show WP.w _ (benR L v j none none none) b2 _
  refine ⟨L.isEmpty || (v == 0), ?_, ?_⟩
  · refine (ev_oOr (b := L.isEmpty) (ev_oB (ev_e2 (a := .tuple L) (b := .tuple []) rfl rfl rfl))).trans ?_
    cases L.isEmpty with
    | true => rfl
    | false => exact ev_oB (ev_e2 (a := .int v) (b := .int 0) rfl rfl rfl)
  refine iteB (fun _ => ?_) (fun hne => ?_)
  · refine ⟨rfl, .tuple L, rfl, _, rfl, rfl, ⟨.tuple L, 0, rfl, by decide, bL.1.up (Nat.le_refl _) (by decide)⟩, by omega, fun d b3 ⟨x, e, sp⟩ h3 => ?_⟩
    cases e
    refine q d b3 ⟨⟨(sp.1.1 0 4 (by decide) bL.1), ?_⟩, fun L' es e1 e2 => by cases e1; exact sp.2 _ _ rfl e2⟩ (by omega)
    have h1 := sp.1.2
    have h2 := bL.2
    omega
  have hne : L.isEmpty = false := (Bool.or_eq_false_iff.mp hne).1
  have l0 : 0 < L.length := by
    cases h : L with
    | nil => rw [h] at hne; cases hne
    | cons _ _ => simp
  have hj : j < L.length := by split at u1 <;> omega
  have hjr : j < rs.length := by omega
  obtain ⟨r, hr⟩ : ∃ r, rs[j]? = some r := ⟨_, List.getElem?_eq_getElem hjr⟩
  have rsm := hs r (List.mem_of_getElem? hr)
  have hLj : L[j]? = some r.d := by
    show (rs.map Rw.d)[j]? = _
    rw [List.getElem?_map, hr]
    rfl
  have l56 : L.length ≤ 56 := by omega
  refine ⟨r.d, ev_e2 (a := .tuple L) (b := .int j) rfl rfl (atI_nat hLj), benR L v j (some (.dat r.d)) none none, rfl, ?_⟩
  refine ⟨v == 1, ev_oB (ev_e2 (a := .int v) (b := .int 1) rfl rfl rfl), iteB (fun _ => ?_) (fun _ => ?_)⟩
  · refine ⟨.tuple (L.take j ++ L.drop (j + 1)), ev_e2 (a := .tuple (L.take j)) (b := .tuple (L.drop (j + 1))) (ev_sl (d := .tuple L) (h := some (j : Int)) rfl rfl rfl (sl_to (by omega))) (ev_sl (d := .tuple L) (l := some ((j : Int) + 1)) rfl rfl rfl (sl_fr1 (by omega))) (add_tup (sz (by rw [List.length_take, List.length_drop]; omega))), q _ b2 ⟨(ben_tup (by rw [List.length_append, List.length_take, List.length_drop]; omega) fun d hd => ?_), fun L' es e1 e2 => by
      cases e1
      cases e2
      simp only [List.length_append, List.length_take, List.length_drop, List.length_reverse, List.length_cons, List.length_nil]
      change _ ≤ L.length + 1
      omega⟩ (by omega)⟩
    rcases List.mem_append.mp hd with hd | hd
    · exact hL d (List.mem_of_mem_take hd)
    · exact hL d (List.mem_of_mem_drop hd)
  refine ⟨v == 2, ev_oB (ev_e2 (a := .int v) (b := .int 2) rfl rfl rfl), iteB (fun _ => ?_) (fun _ => ?_)⟩
  · refine ⟨.tuple (L.take j ++ [r.d] ++ L.drop j), ev_e2 (a := .tuple (L.take j ++ [r.d])) (b := .tuple (L.drop j)) (ev_e2 (a := .tuple (L.take j)) (b := .tuple [r.d]) (ev_sl (d := .tuple L) (h := some (j : Int)) rfl rfl rfl (sl_to (by omega))) rfl (add_tup (sz (by rw [List.length_take]; simp; omega)))) (ev_sl (d := .tuple L) (l := some (j : Int)) rfl rfl rfl (sl_fr (by omega))) (add_tup (sz (by rw [List.length_append, List.length_take, List.length_drop]; simp; omega))), q _ b2 ⟨(ben_tup (by rw [List.length_append, List.length_append, List.length_take, List.length_drop]; simp; omega) fun d hd => ?_), fun L' es e1 e2 => by
      cases e1
      cases e2
      simp only [List.length_append, List.length_take, List.length_drop, List.length_reverse, List.length_cons, List.length_nil]
      change _ ≤ L.length + 1
      omega⟩ (by omega)⟩
    rcases List.mem_append.mp hd with hd | hd
    · rcases List.mem_append.mp hd with hd | hd
      · exact hL d (List.mem_of_mem_take hd)
      · rw [List.mem_singleton.mp hd]; exact rsm.rb
    · exact hL d (List.mem_of_mem_drop hd)
  refine ⟨v == 3, ev_oB (ev_e2 (a := .int v) (b := .int 3) rfl rfl rfl), iteB (fun _ => ?_) (fun _ => ?_)⟩
  · exact ⟨.tuple L.reverse, rfl, q _ b2 ⟨(ben_tup (by rw [List.length_reverse]; omega) fun d hd => hL d (List.mem_reverse.mp hd)), fun L' es e1 e2 => by
      cases e1
      cases e2
      simp only [List.length_append, List.length_take, List.length_drop, List.length_reverse, List.length_cons, List.length_nil]
      change _ ≤ L.length + 1
      omega⟩ (by omega)⟩
  refine ⟨decide (v < 6), rfl, iteB (fun _ => ?_) (fun _ => ?_)⟩
  · -- a moment moved
    have mv : ∀ k : Int, k ∈ [(1 : Int), -1, 2, 6, -6, 12, 21] → -6 ≤ k ∧ k ≤ 21 := by decide
    let Is : List D := ([(1 : Int), -1, 2, 6, -6, 12, 21]).map PyData.int
    obtain ⟨a1, a2, t, rest, er, rl, hRB⟩ : ∃ (a1 a2 : D) (t : Int) (rest : List D), r.d = .tuple (a1 :: a2 :: .int t :: rest) ∧ rest.length ≤ 1 ∧ ∀ k : Int, -6 ≤ k → k ≤ 21 → RB (.tuple (a1 :: a2 :: .int (t + k) :: rest)) := by
      cases r with
      | br i sr t =>
        obtain ⟨j8, t0, t1⟩ := rsm
        refine ⟨S "brought", .int (i : Nat), t, [], rfl, by simp, fun k k0 k1 => rb4 (by simp) fun d hd => ?_⟩
        simp only [List.mem_cons, List.not_mem_nil, or_false] at hd
        rcases hd with rfl | rfl | rfl
        · exact lf_up (lf_S "brought") (by decide) (by decide)
        · exact rb_int (by omega) (by omega)
        · exact rb_int (by omega) (by omega)
      | md i y t ns =>
        obtain ⟨j8, t0, t1, n1, n3, hn⟩ := rsm
        exact ⟨S "made", .int (i : Nat), t, [.tuple (ns.map PyData.int)], rfl, by simp, fun k k0 k1 => rb5 (lf_S "made") (lf_int (by omega) (by omega)) (lf_int (by omega) (by omega)) n3 fun i hi => by have := hn i hi; omega⟩
    rw [er]
    refine ⟨.tuple [a1, a2], ev_sl (d := .tuple (a1 :: a2 :: .int t :: rest)) (h := some ((2 : Nat) : Int)) rfl rfl rfl (sl_to (xs := a1 :: a2 :: .int t :: rest) (j := 2) (by simp)), .int t, ev_e2 (a := .tuple (a1 :: a2 :: .int t :: rest)) (b := .int 2) rfl rfl (atI_nat (j := 2) rfl), wOne (items := Is) rfl rfl rfl (by decide) (by decide) (by omega) fun d b3 dm h3 => ?_⟩
    obtain ⟨k, hk, rfl⟩ := List.mem_map.mp dm
    have kb := mv k hk
    refine ⟨.int (t + k), rfl, _, rfl, .tuple [.int (t + k)], rfl, .tuple [a1, a2, .int (t + k)], rfl, .tuple rest, ?_, .tuple (a1 :: a2 :: .int (t + k) :: rest), ?_, benR L v j (some (.dat (.tuple (a1 :: a2 :: .int (t + k) :: rest)))) none none, rfl, ?_⟩
    · exact ev_sl (d := .tuple (a1 :: a2 :: .int t :: rest)) (l := some ((3 : Nat) : Int)) rfl rfl rfl (sl_fr (by simp))
    · exact (add_tup (sz (by simp; omega))).trans rfl
    · exact ⟨_, ben_fin hj l56, q _ b3 ⟨(ben_put l56 hL (hRB k kb.1 kb.2)), fun L' es e1 e2 => by
      cases e1
      cases e2
      simp only [List.length_append, List.length_take, List.length_drop, List.length_reverse, List.length_cons, List.length_nil]
      change _ ≤ L.length + 1
      omega⟩ (by omega)⟩
  · cases r with
    | br i sr t =>
      obtain ⟨j8, t0, t1⟩ := rsm
      refine ⟨false, rfl, ?_⟩
      refine ⟨S "brought", rfl, wNext (m := 6) rfl rfl (by decide) (by decide) (by omega) fun k b3 k0 k1 h3 => ⟨.int t, rfl, _, rfl, _, rfl, _, rfl, .tuple [S "brought", .int k, .int t], rfl, benR L v j (some (.dat (.tuple [S "brought", .int k, .int t]))) none none, rfl, ?_⟩⟩
      refine ⟨_, ben_fin hj l56, q _ b3 ⟨(ben_put l56 hL (rb4 (by simp) fun d hd => ?_)), fun L' es e1 e2 => by
      cases e1
      cases e2
      simp only [List.length_append, List.length_take, List.length_drop, List.length_reverse, List.length_cons, List.length_nil]
      change _ ≤ L.length + 1
      omega⟩ (by omega)⟩
      simp only [List.mem_cons, List.not_mem_nil, or_false] at hd
      rcases hd with rfl | rfl | rfl
      · exact lf_up (lf_S "brought") (by decide) (by decide)
      · exact rb_int (by omega) (by omega)
      · exact rb_int (by omega) (by omega)
    | md i y t ns =>
      obtain ⟨j8, t0, t1, n1, n3, hn⟩ := rsm
      have nl' : (ns.map PyData.int).length = ns.length := List.length_map ..
      refine ⟨true, rfl, ?_⟩
      refine ⟨.tuple (ns.map PyData.int), rfl, benR L v j (some (.dat (Rw.md i y t ns).d)) (some (.dat (.tuple (ns.map PyData.int)))) none, rfl, ?_⟩
      refine wNext (m := (ns.map PyData.int).length) rfl rfl (by omega) (by omega) (by omega) fun a b3 a0 a1 h3 => ?_
      obtain ⟨a, rfl⟩ : ∃ m : Nat, a = m := ⟨a.toNat, by omega⟩
      refine ⟨benR L v j (some (.dat (Rw.md i y t ns).d)) (some (.dat (.tuple (ns.map PyData.int)))) (some (.dat (.int a))), rfl, ?_⟩
      refine ⟨.tuple ((ns.map PyData.int).take a), ev_sl (d := .tuple (ns.map PyData.int)) (h := some (a : Int)) rfl rfl rfl (sl_to (by omega)), wNext (m := L.length) rfl rfl (by omega) (by omega) (by omega) fun k b4 k0 k1 h4 => ?_⟩
      let ns' : List Int := ns.take a ++ [k] ++ ns.drop (a + 1)
      have en : (ns.map PyData.int).take a ++ [.int k] ++ (ns.map PyData.int).drop (a + 1) = ns'.map PyData.int := by
        show _ = (ns.take a ++ [k] ++ ns.drop (a + 1)).map PyData.int
        rw [List.map_append, List.map_append, List.map_take, List.map_drop]
        rfl
      refine ⟨_, rfl, .tuple [.int k], rfl, .tuple ((ns.map PyData.int).take a ++ [.int k]), add_tup (sz (by rw [List.length_take]; simp; omega)), .tuple ((ns.map PyData.int).drop (a + 1)), ev_sl (d := .tuple (ns.map PyData.int)) (l := some ((a : Int) + 1)) rfl rfl rfl (sl_fr1 (by omega)), .tuple (ns'.map PyData.int), (add_tup (sz (by rw [List.length_append, List.length_take, List.length_drop]; simp; omega))).trans (by rw [en]), benR L v j (some (.dat (Rw.md i y t ns).d)) (some (.dat (.tuple (ns'.map PyData.int)))) (some (.dat (.int a))), rfl, ?_⟩
      refine ⟨.tuple [S "made", .int (i : Nat), .int t, .tuple (ns'.map PyData.int)], rfl, benR L v j (some (.dat (.tuple [S "made", .int (i : Nat), .int t, .tuple (ns'.map PyData.int)]))) (some (.dat (.tuple (ns'.map PyData.int)))) (some (.dat (.int a))), rfl, ?_⟩
      refine ⟨_, ben_fin hj l56, q _ b4 ⟨(ben_put l56 hL (rb5 (lf_S "made") (lf_int (by omega) (by omega)) (lf_int (by omega) (by omega)) ?_ fun x hx => ?_)), fun L' es e1 e2 => by
      cases e1
      cases e2
      simp only [List.length_append, List.length_take, List.length_drop, List.length_reverse, List.length_cons, List.length_nil]
      change _ ≤ L.length + 1
      omega⟩ (by omega)⟩
      · show (ns.take a ++ [k] ++ ns.drop (a + 1)).length ≤ 3
        rw [List.length_append, List.length_append, List.length_take, List.length_drop]
        simp
        omega
      · rcases List.mem_append.mp hx with hx | hx
        · rcases List.mem_append.mp hx with hx | hx
          · have := hn x (List.mem_of_mem_take hx); omega
          · rw [List.mem_singleton.mp hx]; omega
        · have := hn x (List.mem_of_mem_drop hx); omega
end
end Dl
namespace Dl
open PySem PySem.Spec PyProof.Rows L2 Rt
theorem wrd_sk {X : Wd} {ts : List Tg} {d : D} {z : Str} (h : wrd X ts d = some z) : PyData.strOk z = true := by
  have a1 : PyData.strOk (Str.ofString "moment") = true := by decide +kernel
  have a2 : PyData.strOk (Str.ofString "row") = true := by decide +kernel
  have a3 : PyData.strOk (Str.ofString "part") = true := by decide +kernel
  unfold wrd at h
  repeat' split at h
  all_goals first | (cases h; done) | (injection h with h; rw [← h]; assumption)
theorem walk_sk {X : Wd} : ∀ {ds : List D} {k : Nat} {ts : List Tg} {q : Nat × Str}, (walkP X k ts ds).1 = some q → PyData.strOk q.2 = true
  | [], k, ts, q, h => nomatch (show (none : Option (Nat × Str)) = some q from h)
  | d :: ds, k, ts, q, h => by
    unfold walkP at h
    cases hw : wrd X ts d with
    | some z =>
      rw [hw] at h
      injection (show some (k, z) = some q from h) with h
      rw [← h]
      exact wrd_sk hw
    | none =>
      rw [hw] at h
      have h : (match rwOf X ts.length d with | some r => walkP X (k + 1) (ts ++ [tgOf ts r]) ds | none => ((none : Option (Nat × Str)), ts)).1 = some q := h
      cases hr : rwOf X ts.length d with
      | none => rw [hr] at h; cases h
      | some r =>
        rw [hr] at h
        exact walk_sk h
theorem flt_dp {X : Wd} {d : D} : dpA 3 (fltP X d) := by
  have base : dpA 3 (.tuple [.int (-1), S "paper"]) := ⟨by show 2 ≤ 1000; decide, fun d hd => by
    simp only [List.mem_cons, List.not_mem_nil, or_false] at hd
    rcases hd with rfl | rfl
    · exact (rfl : okD (.int (-1)) = true)
    · exact (show okD (S "paper") = true by decide +kernel)⟩
  cases d with
  | tuple ds =>
    cases ds with
    | nil => exact base
    | cons d ds =>
      show dpA 3 (fltD (walkP X 0 [] (d :: ds)).1)
      cases h : (walkP X 0 [] (d :: ds)).1 with
      | none => exact (rfl : okD .none = true)
      | some q =>
        obtain ⟨k, z⟩ := q
        have hz := walk_sk h
        exact ⟨by show 2 ≤ 1000; decide, fun d hd => by
          simp only [List.mem_cons, List.not_mem_nil, or_false] at hd
          rcases hd with rfl | rfl
          · exact (rfl : okD (.int (k : Nat)) = true)
          · exact okD_str hz⟩
  | none | bool _ | int _ | str _ | list _ | dict _ => exact base
structure Th (d : D) : Prop where
  b : Bd 3 12 d
  w : d.weight ≤ 150000
theorem Th.gq {d : D} (h : Th d) : gq d = true := h.b.gq (by decide)
theorem Th.repr {X : Wd} {d : D} (hX : X.ok) (h : Th d) : reprD [.list [X.d, d]] = some (.str (PyData.list [X.d, d]).shown) := by
  have wb := wd_bd hX
  refine Bd.repr (m := 3) (n := 13) ⟨by show 2 ≤ 70 + 3; decide, fun x hx => ?_⟩ (by decide) (by decide) ?_
  · simp only [List.mem_cons, List.not_mem_nil, or_false] at hx
    rcases hx with rfl | rfl
    · exact wb.1.up (by decide) (by decide)
    · exact h.b
  · have h1 := wb.2
    have h2 := h.w
    show X.d.weight + 1 + (d.weight + 1 + 0) ≤ 200000
    omega
theorem Th.of {m n : Nat} {d : D} (h : Bd m n d) (hm : m ≤ 3) (hn : n ≤ 12) (hw : d.weight ≤ 150000) : Th d := ⟨h.up hm hn, hw⟩
theorem sz' {n : Nat} (h : n ≤ 1000) : n < sizeLine := Nat.lt_of_lt_of_le (show n < 1001 by omega) (by decide)
def spLaw (K : PySem.W.Frag) : Sp := fun vs H Q _ => ∃ (a : Addr) (ns : List Int), vs = [.ref a] ∧ SqL K H a (ns.map V.int) ∧ ns.length ≤ 63 ∧ ∀ H', Q (.bl true) H'
section
variable {P : Program} {w : World} {K : PySem.W.Frag} {mg : Str → Option Value} {base : Heap}
theorem ok_alike {f : Addr} {fd : FuncData} (F : Fun K "_law_alike" "_law_alike" s_law_alike f fd) (b : Binds K fd ["_law_one_here", "_law_other"] []) (g : mg "_law_alike" = some (.ref f)) (m_isinstance : mg "isinstance" = none) (m_tuple : mg "tuple" = none) (m_bool : mg "bool" = none) (m_int : mg "int" = none) (m_str : mg "str" = none) (m_len : mg "len" = none) (m_all : mg "all" = none) (m_zip : mg "zip" = none) : FnOk P w K mg base CX0 3 f fd ["_law_one_here", "_law_other"] (spD 2 (sAl (dpA 3))) := by
  have s0 : FnOk P w K mg base CX0 0 f fd ["_law_one_here", "_law_other"] (spD 2 (sAl (dpA 0))) := ok_never fun ds => by
    unfold sAl
    split
    · exact @if_neg _ (Classical.propDecidable _) (fun h => h.2) _ _ _
    · rfl
  have s1 := ok_alikeS F m_isinstance m_tuple m_bool m_int m_str m_len m_all m_zip ⟨f, fd, s0, g, F.kp, b⟩
  have s2 := ok_alikeS F m_isinstance m_tuple m_bool m_int m_str m_len m_all m_zip ⟨f, fd, s1, g, F.kp, b⟩
  exact ok_alikeS F m_isinstance m_tuple m_bool m_int m_str m_len m_all m_zip ⟨f, fd, s2, g, F.kp, b⟩
end
end Dl
namespace Dl
open PySem PySem.Spec PyProof.Rows L2 Rt
/-! ### papers, row by row -/
theorem Gd.len {X : Wd} : ∀ {rs : List Rw} {ts : List Tg}, Gd X rs ts → ts.length = rs.length
  | _, _, .nil => rfl
  | _, _, .snoc h _ => by rw [List.length_append, List.length_append, h.len]; rfl
theorem Gd.walk {X : Wd} : ∀ {rs : List Rw} {ts : List Tg}, Gd X rs ts → walkP X 0 [] (rs.map Rw.d) = (none, ts)
  | _, _, .nil => rfl
  | _, _, .snoc h g => by rw [List.map_append]; exact walk_snoc h.walk g
structure GdI (X : Wd) (rs : List Rw) (ts : List Tg) : Prop where
  len : ts.length = rs.length
  row : ∀ i r, rs[i]? = some r → r.good X (ts.take i) ∧ ts[i]? = some (tgOf (ts.take i) r)
theorem Gd.toI {X : Wd} : ∀ {rs : List Rw} {ts : List Tg}, Gd X rs ts → GdI X rs ts
  | _, _, .nil => ⟨rfl, fun i r e => nomatch e⟩
  | _, _, .snoc (rs := rs) (ts := ts) (r := r0) h g => by
    have ih := h.toI
    have hl := ih.len
    refine ⟨by rw [List.length_append, List.length_append, hl]; rfl, fun i r e => ?_⟩
    by_cases hi : i < rs.length
    · rw [List.getElem?_append_left hi] at e
      obtain ⟨a, b⟩ := ih.row i r e
      rw [List.take_append_of_le_length (by omega), List.getElem?_append_left (by omega)]
      exact ⟨a, b⟩
    · have hi2 : i = rs.length := by
        have := (List.getElem?_eq_some_iff.mp e).1
        rw [List.length_append, List.length_singleton] at this
        omega
      subst hi2
      rw [List.getElem?_append_right (Nat.le_refl _), Nat.sub_self] at e
      cases e
      rw [← hl, List.take_left', List.getElem?_append_right (Nat.le_refl _), Nat.sub_self]
      · exact ⟨g, rfl⟩
      · rfl
theorem snoc_of {α : Type} {xs : List α} {n : Nat} (h : xs.length = n + 1) : ∃ ys y, xs = ys ++ [y] ∧ ys.length = n := by
  refine ⟨xs.take n, xs[n]'(by omega), ?_, by rw [List.length_take]; omega⟩
  have e : xs.drop n = [xs[n]'(by omega)] := by rw [List.drop_eq_getElem_cons (by omega), List.drop_of_length_le (by omega)]
  rw [← e, List.take_append_drop]
theorem GdI.toGd {X : Wd} : ∀ (n : Nat) {rs : List Rw} {ts : List Tg}, rs.length = n → GdI X rs ts → Gd X rs ts
  | 0, rs, ts, hn, h => by
    obtain rfl := List.length_eq_zero_iff.mp hn
    obtain rfl := List.length_eq_zero_iff.mp h.len
    exact .nil
  | n + 1, rs, ts, hn, h => by
    obtain ⟨rs0, r, rfl, h0⟩ := snoc_of hn
    obtain ⟨ts0, g, rfl, h1⟩ := snoc_of (h.len.trans hn)
    have ih : GdI X rs0 ts0 := ⟨by omega, fun i r e => by
      have hi := (List.getElem?_eq_some_iff.mp e).1
      have := h.row i r (by rw [List.getElem?_append_left hi]; exact e)
      rw [List.take_append_of_le_length (by omega), List.getElem?_append_left (by omega)] at this
      exact this⟩
    have hr := h.row n r (by rw [List.getElem?_append_right (by omega), h0, Nat.sub_self]; rfl)
    rw [← h1, List.take_left' rfl, List.getElem?_append_right (Nat.le_refl _), Nat.sub_self] at hr
    obtain ⟨hg, ht⟩ := hr
    have ht : g = tgOf ts0 r := by injection ht
    rw [ht]
    exact .snoc (GdI.toGd n h0 ih) hg
/-! ### rows by other numbers -/
def Rw.ren (f : Int → Int) : Rw → Rw
  | .br j r t => .br j r t
  | .md j y t ns => .md j y t (ns.map f)
def Rw.pts : Rw → List Int
  | .br _ _ _ => []
  | .md _ _ _ ns => ns
theorem Rw.good.pts {X : Wd} {ts : List Tg} {r : Rw} (h : r.good X ts) : ∀ i ∈ r.pts, 0 ≤ i ∧ i ≤ (ts.length : Int) - 1 := by
  cases r with
  | br j r t => exact fun i hi => nomatch hi
  | md j y t ns => exact h.2.2.2.2.1
theorem Rw.good.ren {X : Wd} {ts us : List Tg} {r : Rw} {f : Int → Int} (h : r.good X ts) (hf : ∀ i ∈ r.pts, 0 ≤ f i ∧ f i ≤ (us.length : Int) - 1 ∧ us[(f i).toNat]? = ts[i.toNat]?) : (r.ren f).good X us ∧ tgOf us (r.ren f) = tgOf ts r := by
  cases r with
  | br j r t => exact ⟨h, rfl⟩
  | md j y t ns =>
    obtain ⟨g, t0, t1, nl, hn, ho, hz⟩ := h
    have at_ : ∀ i ∈ ns, tgAt us (f i) = tgAt ts i := fun i hi => by
      unfold tgAt
      rw [(hf i hi).2.2]
    refine ⟨⟨g, t0, t1, by rw [List.length_map]; exact nl, fun i hi => ?_, ho, ?_⟩, ?_⟩
    · obtain ⟨k, hk, rfl⟩ := List.mem_map.mp hi
      exact ⟨(hf k hk).1, (hf k hk).2.1⟩
    · rw [List.zip_map_right, List.all_map, List.all_eq_true]
      intro z hzm
      have := List.all_eq_true.mp hz z hzm
      show fitB z.1 (tgAt us (f z.2)) t = true
      rw [at_ z.2 (List.of_mem_zip hzm).2]
      exact this
    · show (⟨y.k, (orgO y (orgs us (ns.map f))).getD 0, t + y.w⟩ : Tg) = ⟨y.k, (orgO y (orgs ts ns)).getD 0, t + y.w⟩
      have : orgs us (ns.map f) = orgs ts ns := by
        unfold orgs
        rw [List.map_map]
        refine List.map_congr_left fun i hi => ?_
        show ((us[(f i).toNat]?).map Tg.o).getD 0 = _
        rw [(hf i hi).2.2]
      rw [this]
theorem GdI.remap {X : Wd} {rs rs' : List Rw} {ts ts' : List Tg} (h : GdI X rs ts) {ix : List Nat} {f : Int → Int} (hr : rs'.length = ix.length) (ht : ts'.length = ix.length)
    (e : ∀ j i, ix[j]? = some i → ∃ r g, rs[i]? = some r ∧ ts[i]? = some g ∧ rs'[j]? = some (r.ren f) ∧ ts'[j]? = some g ∧ ∀ p ∈ r.pts, ∃ q : Nat, f p = (q : Int) ∧ q < j ∧ ix[q]? = some p.toNat) : GdI X rs' ts' := by
  refine ⟨by omega, fun j r' er => ?_⟩
  have hj := (List.getElem?_eq_some_iff.mp er).1
  obtain ⟨r, g, e1, e2, e3, e4, hp⟩ := e j _ (List.getElem?_eq_getElem (by omega))
  rw [e3] at er
  cases er
  obtain ⟨a, b⟩ := h.row _ r e1
  have hl : (ts'.take j).length = j := by rw [List.length_take]; omega
  have := a.ren (us := ts'.take j) (f := f) fun p hpm => by
    obtain ⟨q, eq, hq, eix⟩ := hp p hpm
    have hb := a.pts p hpm
    obtain ⟨r2, g2, _, f2, _, f4, _⟩ := e q _ eix
    have hlt : p.toNat < ix[j]'(by omega) := by
      have := List.length_take_le (ix[j]'(by omega)) ts
      omega
    refine ⟨by omega, by omega, ?_⟩
    rw [eq, show ((q : Int)).toNat = q by omega, List.getElem?_take_of_lt hq, f4, List.getElem?_take_of_lt hlt, f2]
  refine ⟨this.1, ?_⟩
  rw [this.2, e4, ← e2, b]
theorem GdI.cat {X : Wd} {rs os : List Rw} {ts us : List Tg} (h : GdI X rs ts) (k : GdI X os us) : GdI X (rs ++ os.map (Rw.ren (· + (rs.length : Int)))) (ts ++ us) := by
  have hl := h.len
  have kl := k.len
  refine ⟨by rw [List.length_append, List.length_append, List.length_map]; omega, fun i r e => ?_⟩
  by_cases hi : i < rs.length
  · rw [List.getElem?_append_left hi] at e
    obtain ⟨a, b⟩ := h.row i r e
    rw [List.take_append_of_le_length (by omega), List.getElem?_append_left (by omega)]
    exact ⟨a, b⟩
  · obtain ⟨j, rfl⟩ : ∃ j, i = rs.length + j := ⟨i - rs.length, by omega⟩
    rw [List.getElem?_append_right (by omega), show rs.length + j - rs.length = j by omega, List.getElem?_map] at e
    cases ho : os[j]? with
    | none => rw [ho] at e; cases e
    | some o =>
      rw [ho] at e
      cases e
      obtain ⟨a, b⟩ := k.row j o ho
      have hj := (List.getElem?_eq_some_iff.mp ho).1
      have et : (ts ++ us).take (rs.length + j) = ts ++ us.take j := by
        rw [← hl, List.take_length_add_append]
      have := a.ren (us := ts ++ us.take j) (f := (· + (rs.length : Int))) fun p hp => by
        have hb := a.pts p hp
        rw [List.length_take] at hb
        refine ⟨by show 0 ≤ p + (rs.length : Int); omega, by show p + (rs.length : Int) ≤ _; rw [List.length_append, List.length_take]; omega, ?_⟩
        show (ts ++ us.take j)[(p + (rs.length : Int)).toNat]? = _
        rw [List.getElem?_append_right (by omega)]
        congr 1
        omega
      rw [et]
      refine ⟨this.1, ?_⟩
      rw [this.2, List.getElem?_append_right (by omega), show rs.length + j - ts.length = j by omega]
      exact b
/-! ### rows moved -/
def Rw.mv (m : Int) : Rw → Rw
  | .br j r t => .br j r (t + m)
  | .md j y t ns => .md j y (t + m) ns
def Rw.t : Rw → Int
  | .br _ _ t => t
  | .md _ _ t _ => t
def Tg.mv (m : Int) (g : Tg) : Tg := ⟨g.k, g.o + m, g.b + m⟩
theorem fold_least_mv (m : Int) : ∀ (os : List Int) (a : Int), (os.map (· + m)).foldl (fun a b => if b < a then b else a) (a + m) = os.foldl (fun a b => if b < a then b else a) a + m
  | [], a => rfl
  | o :: os, a => by
    rw [List.map_cons, List.foldl_cons, List.foldl_cons, ← fold_least_mv m os]
    congr 1
    by_cases h : o < a
    · rw [if_pos h, if_pos (show o + m < a + m by omega)]
    · rw [if_neg h, if_neg (show ¬ o + m < a + m by omega)]
theorem fold_most_mv (m : Int) : ∀ (os : List Int) (a : Int), (os.map (· + m)).foldl (fun a b => if b > a then b else a) (a + m) = os.foldl (fun a b => if b > a then b else a) a + m
  | [], a => rfl
  | o :: os, a => by
    rw [List.map_cons, List.foldl_cons, List.foldl_cons, ← fold_most_mv m os]
    congr 1
    by_cases h : o > a
    · rw [if_pos h, if_pos (show o + m > a + m by omega)]
    · rw [if_neg h, if_neg (show ¬ o + m > a + m by omega)]
theorem org_mv {y : Wy} {os : List Int} (m : Int) (h : 0 < os.length) : (orgO y (os.map (· + m))).getD 0 = (orgO y os).getD 0 + m := by
  cases os with
  | nil => cases h
  | cons o os =>
    unfold orgO
    split
    · exact fold_least_mv m os o
    · exact fold_most_mv m os o
theorem Rw.good.mv {X : Wd} (hX : X.ok) {ts : List Tg} {r : Rw} {m q : Int} (h : r.good X ts) (q0 : 0 ≤ q) (hm : m = X.n * q) (ht : r.t + m ≤ 3000000000000000) : (r.mv m).good X (ts.map (Tg.mv m)) ∧ tgOf (ts.map (Tg.mv m)) (r.mv m) = (tgOf ts r).mv m := by
  have n1 := hX.n1
  have m0 : 0 ≤ m := by rw [hm]; exact Int.mul_nonneg (by omega) q0
  have em : ∀ t : Int, (t + m) % X.n = t % X.n := fun t => by rw [hm, Int.add_mul_emod_self_left]
  cases r with
  | br j r t =>
    obtain ⟨g, t0, t1, hh⟩ := h
    have hh := Bool.and_eq_true_iff.mp hh
    have h1 := of_decide_eq_true hh.1
    refine ⟨⟨g, by show 0 ≤ t + m; omega, ht, ?_⟩, ?_⟩
    · rw [em, hh.2, decide_eq_true (show t + m ≥ r.s by omega)]; rfl
    · show (⟨r.k, t + m - r.a, t + m⟩ : Tg) = ⟨r.k, t - r.a + m, t + m⟩
      rw [show t + m - r.a = t - r.a + m by omega]
  | md j y t ns =>
    obtain ⟨g, t0, t1, nl, hn, ho, hz⟩ := h
    have yok := hX.ws y (List.mem_of_getElem? g)
    have at_ : ∀ i ∈ ns, ∃ x, ts[i.toNat]? = some x ∧ tgAt ts i = x ∧ tgAt (ts.map (Tg.mv m)) i = x.mv m := fun i hi => by
      have hb := hn i hi
      obtain ⟨x, hx⟩ : ∃ x, ts[i.toNat]? = some x := ⟨_, List.getElem?_eq_getElem (by omega)⟩
      refine ⟨x, hx, by unfold tgAt; rw [hx]; rfl, by unfold tgAt; rw [List.getElem?_map, hx]; rfl⟩
    refine ⟨⟨g, by show 0 ≤ t + m; omega, ht, nl, by rw [List.length_map]; exact hn, by rw [em]; exact ho, ?_⟩, ?_⟩
    · rw [List.all_eq_true]
      intro z hzm
      have hf := List.all_eq_true.mp hz z hzm
      obtain ⟨x, _, e1, e2⟩ := at_ z.2 (List.of_mem_zip hzm).2
      rw [e2]
      rw [e1] at hf
      refine Eq.trans ?_ hf
      unfold fitB
      show ((x.k == z.1.k) && (decide (x.b + m ≤ t + m) && (decide (z.1.l ≤ t + m - (x.o + m)) && decide (t + m - (x.o + m) ≤ z.1.g)))) = _
      rw [show t + m - (x.o + m) = t - x.o by omega]
      congr 2
      exact decide_eq_decide.mpr (by omega)
    · show (⟨y.k, (orgO y (orgs (ts.map (Tg.mv m)) ns)).getD 0, t + m + y.w⟩ : Tg) = ⟨y.k, (orgO y (orgs ts ns)).getD 0 + m, t + y.w + m⟩
      have e1 : orgs (ts.map (Tg.mv m)) ns = (orgs ts ns).map (· + m) := by
        unfold orgs
        rw [List.map_map]
        refine List.map_congr_left fun i hi => ?_
        obtain ⟨x, hx, _⟩ := at_ i hi
        show (((ts.map (Tg.mv m))[i.toNat]?).map Tg.o).getD 0 = ((ts[i.toNat]?).map Tg.o).getD 0 + m
        rw [List.getElem?_map, hx]
        rfl
      have p1 := yok.p1
      rw [e1, org_mv m (by unfold orgs; rw [List.length_map]; omega), show t + m + y.w = t + y.w + m by omega]
theorem GdI.mv {X : Wd} (hX : X.ok) {rs : List Rw} {ts : List Tg} {m q : Int} (h : GdI X rs ts) (q0 : 0 ≤ q) (hm : m = X.n * q) (ht : ∀ r ∈ rs, r.t + m ≤ 3000000000000000) : GdI X (rs.map (Rw.mv m)) (ts.map (Tg.mv m)) := by
  refine ⟨by rw [List.length_map, List.length_map]; exact h.len, fun i r e => ?_⟩
  rw [List.getElem?_map] at e
  cases hr : rs[i]? with
  | none => rw [hr] at e; cases e
  | some r0 =>
    rw [hr] at e
    cases e
    obtain ⟨a, b⟩ := h.row i r0 hr
    rw [← List.map_take, List.getElem?_map, b]
    have := a.mv hX q0 hm (ht r0 (List.mem_of_getElem? hr))
    exact ⟨this.1, by rw [this.2]; rfl⟩
end Dl
namespace Dl
open PySem PySem.Spec PyProof.Rows L2 Rt
/-! ### the rows that the last one goes back to -/
def ptsD : D → List Int
  | .tuple [_, _, _, .tuple ds] => (intsD ds).getD []
  | _ => []
theorem ptsD_d (r : Rw) : ptsD r.d = r.pts := by
  cases r with
  | br j r t => rfl
  | md j y t ns =>
    show (intsD (ns.map PyData.int)).getD [] = ns
    rw [intsD.map]
    rfl
theorem ptsD_map (rs : List Rw) : (rs.map Rw.d).map ptsD = rs.map Rw.pts := by
  rw [List.map_map]
  exact List.map_congr_left fun r _ => ptsD_d r
inductive Rch (ps : List (List Int)) : Nat → Prop
  | last : 0 < ps.length → Rch ps (ps.length - 1)
  | part {k : Nat} {r : List Int} {p : Int} : Rch ps k → ps[k]? = some r → p ∈ r → Rch ps p.toNat
def Ahd (ps : List (List Int)) : Prop := ∀ (k : Nat) (r : List Int), ps[k]? = some r → ∀ p ∈ r, 0 ≤ p ∧ p < (k : Int)
def Mk (ps : List (List Int)) (k i : Nat) : Prop := i + 1 = ps.length ∨ ∃ (k' : Nat) (r : List Int) (p : Int), k ≤ k' ∧ Rch ps k' ∧ ps[k']? = some r ∧ p ∈ r ∧ p.toNat = i
theorem Rch.lt {ps : List (List Int)} (a : Ahd ps) {i : Nat} (h : Rch ps i) : i < ps.length := by
  cases h with
  | last h => omega
  | part h e m =>
    have := a _ _ e _ m
    have := (List.getElem?_eq_some_iff.mp e).1
    omega
theorem Mk.top {ps : List (List Int)} {i : Nat} : Mk ps ps.length i ↔ i + 1 = ps.length := by
  refine ⟨fun h => ?_, .inl⟩
  rcases h with h | ⟨k, r, p, hk, _, e, _⟩
  · exact h
  · have := (List.getElem?_eq_some_iff.mp e).1
    omega
theorem Mk.self {ps : List (List Int)} (a : Ahd ps) {k : Nat} : Mk ps (k + 1) k ↔ Rch ps k := by
  constructor
  · rintro (h | ⟨k', r, p, hk, h, e, m, rfl⟩)
    · have := Rch.last (ps := ps) (by omega)
      rwa [← h, Nat.add_sub_cancel] at this
    · exact .part h e m
  · intro h
    cases h with
    | last h => exact .inl (by omega)
    | part h e m => exact .inr ⟨_, _, _, by have := a _ _ e _ m; omega, h, e, m, rfl⟩
theorem Mk.step {ps : List (List Int)} {k i : Nat} : Mk ps k i ↔ Mk ps (k + 1) i ∨ (Rch ps k ∧ ∃ r p, ps[k]? = some r ∧ p ∈ r ∧ Int.toNat p = i) := by
  constructor
  · rintro (h | ⟨k', r, p, hk, h, e, m, g⟩)
    · exact .inl (.inl h)
    · rcases Nat.lt_or_eq_of_le hk with h2 | rfl
      · exact .inl (.inr ⟨k', r, p, h2, h, e, m, g⟩)
      · exact .inr ⟨h, r, p, e, m, g⟩
  · rintro ((h | ⟨k', r, p, hk, h, e, m, g⟩) | ⟨h, r, p, e, m, g⟩)
    · exact .inl h
    · exact .inr ⟨k', r, p, by omega, h, e, m, g⟩
    · exact .inr ⟨k, r, p, Nat.le_refl _, h, e, m, g⟩
theorem Mk.zero {ps : List (List Int)} {i : Nat} : Mk ps 0 i ↔ Rch ps i := by
  constructor
  · rintro (h | ⟨k', r, p, hk, h, e, m, rfl⟩)
    · have := Rch.last (ps := ps) (by omega)
      rwa [← h, Nat.add_sub_cancel] at this
    · exact .part h e m
  · intro h
    cases h with
    | last h => exact .inl (by omega)
    | part h e m => exact .inr ⟨_, _, _, Nat.zero_le _, h, e, m, rfl⟩
noncomputable def rchB (ps : List (List Int)) (i : Nat) : Bool := @decide (Rch ps i) (Classical.propDecidable _)
theorem rchB_iff {ps : List (List Int)} {i : Nat} : rchB ps i = true ↔ Rch ps i := @decide_eq_true_iff _ (Classical.propDecidable _)
noncomputable def Nd (ps : List (List Int)) : List Nat := (List.range ps.length).filter (rchB ps)
theorem Nd.mem {ps : List (List Int)} (a : Ahd ps) {i : Nat} : i ∈ Nd ps ↔ Rch ps i := by
  unfold Nd
  rw [List.mem_filter, rchB_iff, List.mem_range]
  exact ⟨fun h => h.2, fun h => ⟨h.lt a, h⟩⟩
theorem Nd.pw (ps : List (List Int)) : (Nd ps).Pairwise (· < ·) := List.Pairwise.filter _ List.pairwise_lt_range
theorem eq_of_pw : ∀ {a b : List Int}, a.Pairwise (· < ·) → b.Pairwise (· < ·) → (∀ x, x ∈ a ↔ x ∈ b) → a = b
  | [], [], _, _, _ => rfl
  | [], y :: b, _, _, h => nomatch (h y).mpr (by simp)
  | x :: a, [], _, _, h => nomatch (h x).mp (by simp)
  | x :: a, y :: b, ha, hb, h => by
    have ha := List.pairwise_cons.mp ha
    have hb := List.pairwise_cons.mp hb
    have e : x = y := by
      rcases List.mem_cons.mp ((h x).mp (by simp)) with e | e
      · exact e
      · rcases List.mem_cons.mp ((h y).mpr (by simp)) with e2 | e2
        · exact e2.symm
        · have := hb.1 x e
          have := ha.1 y e2
          omega
    subst e
    rw [eq_of_pw ha.2 hb.2 fun z => ?_]
    constructor
    · intro m
      rcases List.mem_cons.mp ((h z).mp (by simp [m])) with e | e
      · have := ha.1 z m; omega
      · exact e
    · intro m
      rcases List.mem_cons.mp ((h z).mpr (by simp [m])) with e | e
      · have := hb.1 z m; omega
      · exact e
/-! ### places in a rising row -/
def rk (nd : List Nat) (p : Int) : Int := ((nd.idxOf p.toNat : Nat) : Int)
theorem idx_get {nd : List Nat} {x : Nat} (h : x ∈ nd) : nd[nd.idxOf x]? = some x := by
  have := List.idxOf_lt_length_iff.mpr h
  rw [List.getElem?_eq_getElem this, List.getElem_idxOf]
theorem pw_lt {nd : List Nat} (h : nd.Pairwise (· < ·)) {i j x y : Nat} (hx : nd[i]? = some x) (hy : nd[j]? = some y) : x < y → i < j := by
  intro lt
  obtain ⟨hi, rfl⟩ := List.getElem?_eq_some_iff.mp hx
  obtain ⟨hj, rfl⟩ := List.getElem?_eq_some_iff.mp hy
  rcases Nat.lt_trichotomy i j with h1 | h1 | h1
  · exact h1
  · subst h1; omega
  · have := List.pairwise_iff_getElem.mp h j i hj hi h1
    omega
theorem pw_inj {nd : List Nat} (h : nd.Pairwise (· < ·)) {i j x : Nat} (hx : nd[i]? = some x) (hy : nd[j]? = some x) : i = j := by
  obtain ⟨hi, rfl⟩ := List.getElem?_eq_some_iff.mp hx
  obtain ⟨hj, e⟩ := List.getElem?_eq_some_iff.mp hy
  rcases Nat.lt_trichotomy i j with h1 | h1 | h1
  · have := List.pairwise_iff_getElem.mp h i j hi hj h1
    omega
  · exact h1
  · have := List.pairwise_iff_getElem.mp h j i hj hi h1
    omega
def rwAt (rs : List Rw) (i : Nat) : Rw := (rs[i]?).getD (.br 0 ⟨Str.ofString "", 0, 0, 0, 0⟩ 0)
def tgI (ts : List Tg) (i : Nat) : Tg := (ts[i]?).getD ⟨Str.ofString "", 0, 0⟩
noncomputable def ndR (rs : List Rw) : List Nat := Nd (rs.map Rw.pts)
noncomputable def trm (rs : List Rw) : List Rw := (ndR rs).map fun i => (rwAt rs i).ren (rk (ndR rs))
theorem GdI.ahd {X : Wd} {rs : List Rw} {ts : List Tg} (h : GdI X rs ts) : Ahd (rs.map Rw.pts) := fun k r e p hp => by
  rw [List.getElem?_map] at e
  cases hr : rs[k]? with
  | none => rw [hr] at e; cases e
  | some r0 =>
    rw [hr] at e
    cases e
    have := (h.row k r0 hr).1.pts p hp
    have := List.length_take_le k ts
    omega
theorem nd_get {X : Wd} {rs : List Rw} {ts : List Tg} (h : GdI X rs ts) {j i : Nat} (e : (ndR rs)[j]? = some i) : Rch (rs.map Rw.pts) i ∧ i < rs.length ∧ rs[i]? = some (rwAt rs i) ∧ ts[i]? = some (tgI ts i) := by
  have m := (Nd.mem h.ahd).mp (List.mem_of_getElem? e)
  have lt := m.lt h.ahd
  rw [List.length_map] at lt
  have hl := h.len
  refine ⟨m, lt, ?_, ?_⟩
  · unfold rwAt; rw [List.getElem?_eq_getElem lt]; rfl
  · unfold tgI; rw [List.getElem?_eq_getElem (by omega)]; rfl
theorem trim_gd {X : Wd} {rs : List Rw} {ts : List Tg} (h : GdI X rs ts) : GdI X (trm rs) ((ndR rs).map (tgI ts)) := by
  have a := h.ahd
  have pw : (ndR rs).Pairwise (· < ·) := Nd.pw _
  refine h.remap (ix := ndR rs) (f := rk (ndR rs)) (List.length_map ..) (List.length_map ..) fun j i e => ?_
  obtain ⟨m, lt, er, et⟩ := nd_get h e
  refine ⟨_, _, er, et, by unfold trm; rw [List.getElem?_map, e]; rfl, by rw [List.getElem?_map, e]; rfl, fun p hp => ?_⟩
  have ep : (rs.map Rw.pts)[i]? = some (rwAt rs i).pts := by rw [List.getElem?_map, er]; rfl
  have hb := a _ _ ep p hp
  have mp : p.toNat ∈ ndR rs := (Nd.mem a).mpr (.part m ep hp)
  exact ⟨_, rfl, pw_lt pw (idx_get mp) e (by omega), idx_get mp⟩
/-- what is trimmed is gone back to as a whole -/
theorem trim_rch {X : Wd} {rs : List Rw} {ts : List Tg} (h : GdI X rs ts) : ∀ (n j : Nat), (ndR rs).length = j + n → 0 < n → Rch ((trm rs).map Rw.pts) j
  | 0, j, hl, h0 => nomatch h0
  | n + 1, j, hl, _ => by
    have a := h.ahd
    have pw : (ndR rs).Pairwise (· < ·) := Nd.pw _
    have tl : ((trm rs).map Rw.pts).length = (ndR rs).length := by rw [List.length_map]; exact List.length_map ..
    obtain ⟨i, hi⟩ : ∃ i, (ndR rs)[j]? = some i := ⟨_, List.getElem?_eq_getElem (by omega)⟩
    obtain ⟨m, lt, er, et⟩ := nd_get h hi
    cases m with
    | last hp =>
      have : j + 1 = (ndR rs).length := by
        rcases Nat.lt_or_ge (j + 1) (ndR rs).length with h1 | h1
        · obtain ⟨i2, hi2⟩ : ∃ i2, (ndR rs)[j + 1]? = some i2 := ⟨_, List.getElem?_eq_getElem h1⟩
          obtain ⟨_, lt2, _, _⟩ := nd_get h hi2
          obtain ⟨h3, e3⟩ := List.getElem?_eq_some_iff.mp hi
          obtain ⟨h4, e4⟩ := List.getElem?_eq_some_iff.mp hi2
          have := List.pairwise_iff_getElem.mp pw j (j + 1) h3 h4 (by omega)
          rw [List.length_map] at e3
          omega
        · omega
      have e : j = ((trm rs).map Rw.pts).length - 1 := by omega
      rw [e]
      exact .last (by omega)
    | @part k r p hk e hp =>
      have hb := a _ _ e p hp
      have mk : k ∈ ndR rs := (Nd.mem a).mpr hk
      have mp : p.toNat ∈ ndR rs := (Nd.mem a).mpr (.part hk e hp)
      have lj : j < (ndR rs).idxOf k := pw_lt pw hi (idx_get mk) (by omega)
      have kl := List.idxOf_lt_length_iff.mpr mk
      have ih := trim_rch h ((ndR rs).length - (ndR rs).idxOf k) ((ndR rs).idxOf k) (by omega) (by omega)
      obtain ⟨_, _, erk, _⟩ := nd_get h (idx_get mk)
      have epk : (rwAt rs k).pts = r := by
        rw [List.getElem?_map, erk] at e
        injection e
      have et2 : ((trm rs).map Rw.pts)[(ndR rs).idxOf k]? = some (r.map (rk (ndR rs))) := by
        rw [List.getElem?_map]
        unfold trm
        rw [List.getElem?_map, idx_get mk]
        show some ((rwAt rs k).ren (rk (ndR rs))).pts = _
        rw [← epk]
        cases rwAt rs k <;> rfl
      have := Rch.part ih et2 (List.mem_map.mpr ⟨p, hp, rfl⟩)
      have ej : (rk (ndR rs) p).toNat = j := by
        unfold rk
        rw [show (((ndR rs).idxOf p.toNat : Nat) : Int).toNat = (ndR rs).idxOf p.toNat by omega]
        exact pw_inj pw (idx_get mp) hi
      rwa [ej] at this
  termination_by n j => (ndR rs).length - j
theorem ren_id {X : Wd} {ts : List Tg} {r : Rw} {m : Nat} (h : r.good X ts) (hm : ts.length ≤ m) : r.ren (rk (List.range m)) = r := by
  cases r with
  | br j r t => rfl
  | md j y t ns =>
    show Rw.md j y t (ns.map _) = _
    congr 1
    refine (List.map_congr_left fun p hp => ?_).trans (List.map_id _)
    have hb := h.pts p hp
    have mp : p.toNat ∈ List.range m := List.mem_range.mpr (by omega)
    have := idx_get mp
    rw [List.getElem?_range (by have := List.idxOf_lt_length_iff.mpr mp; rwa [List.length_range] at this)] at this
    have this : (List.range m).idxOf p.toNat = p.toNat := by injection this
    unfold rk
    rw [this]
    show ((p.toNat : Nat) : Int) = p
    omega
theorem trim_nd {X : Wd} {rs : List Rw} {ts : List Tg} (h : GdI X rs ts) : ndR (trm rs) = List.range (trm rs).length := by
  have tl : (trm rs).length = (ndR rs).length := List.length_map ..
  show (List.range ((trm rs).map Rw.pts).length).filter (rchB ((trm rs).map Rw.pts)) = _
  rw [List.length_map]
  refine List.filter_eq_self.mpr fun j hj => rchB_iff.mpr ?_
  have hj := List.mem_range.mp hj
  exact trim_rch h ((ndR rs).length - j) j (by omega) (by omega)
theorem trim_trim {X : Wd} {rs : List Rw} {ts : List Tg} (h : GdI X rs ts) : trm (trm rs) = trm rs := by
  have g := trim_gd h
  have tl : (trm rs).length = (ndR rs).length := List.length_map ..
  show (ndR (trm rs)).map (fun i => (rwAt (trm rs) i).ren (rk (ndR (trm rs)))) = _
  rw [trim_nd h]
  apply List.ext_getElem?
  intro j
  rw [List.getElem?_map]
  by_cases hj : j < (trm rs).length
  · rw [List.getElem?_range hj]
    show some ((rwAt (trm rs) j).ren _) = _
    have e : (trm rs)[j]? = some (rwAt (trm rs) j) := by unfold rwAt; rw [List.getElem?_eq_getElem hj]; rfl
    have gg := (g.row j _ e).1
    rw [ren_id gg (by rw [List.length_take, List.length_map]; omega), e]
  · rw [List.getElem?_eq_none (by rw [List.length_range]; omega), List.getElem?_eq_none (by omega)]
    rfl
/-! by data -/
def renD (f : Int → Int) : D → D
  | .tuple [a, b, c, .tuple ds] => .tuple [a, b, c, .tuple (((intsD ds).getD []).map fun i => .int (f i))]
  | d => d
theorem renD_d (f : Int → Int) (r : Rw) : renD f r.d = (r.ren f).d := by
  cases r with
  | br j r t => rfl
  | md j y t ns =>
    show PyData.tuple [_, _, _, .tuple (((intsD (ns.map PyData.int)).getD []).map fun i => .int (f i))] = .tuple [_, _, _, .tuple ((ns.map f).map PyData.int)]
    rw [intsD.map, List.map_map]
    rfl
noncomputable def trmD (L : List D) : List D := (Nd (L.map ptsD)).map fun i => renD (rk (Nd (L.map ptsD))) ((L[i]?).getD .none)
theorem trmD_d {X : Wd} {rs : List Rw} {ts : List Tg} (h : GdI X rs ts) : trmD (rs.map Rw.d) = (trm rs).map Rw.d := by
  unfold trmD trm
  rw [ptsD_map, List.map_map]
  refine List.map_congr_left fun i hi => ?_
  obtain ⟨j, hj⟩ := List.getElem?_of_mem hi
  obtain ⟨_, _, er, _⟩ := nd_get h hj
  rw [List.getElem?_map, er]
  exact renD_d _ _
end Dl
namespace Dl
open PySem PySem.Spec PyProof.Rows L2 Rt
/-! ### dicts whose keys are numbers or texts -/
theorem u1 {k : Nat} {A : Around} (r : Room k A) : A.units + 1 < cLine := by
  have := r.un
  omega
def keyOf : D → Option Key
  | .int i => some (.inl i)
  | .str x => some (.inr x)
  | _ => none
theorem keyOf_kD (k : Key) : keyOf (kD k) = some k := by cases k <;> rfl
theorem Rp.key {M : Addr → Prop} {H : Hp} {v : V} {d : D} {k : Key} (r : Rp M H v d) (h : keyOf d = some k) : v = kV k := by
  cases r <;> cases h <;> rfl
def lookD (k : Key) : List (D × D) → Option D
  | [] => none
  | e :: es => if keyOf e.1 = some k then some e.2 else lookD k es
def dgD : D → D → Option D
  | .dict es, k => (keyOf k).bind fun k => lookD k es
  | _, _ => none
theorem RpKV.val {M : Addr → Prop} {H : Hp} {k : Key} {d : D} : ∀ {kvs : List (Key × V)} {es : List (D × D)}, RpKV M H kvs es → lookD k es = some d → ∃ v, valV kvs k = some v ∧ Rp M H v d
  | _, _, .nil, e => nomatch e
  | _, _, .cons (k := k0) (v := v0) h t, e => by
    unfold lookD at e
    by_cases z : k0 = k
    · rw [if_pos (show keyOf (kD k0) = some k by rw [keyOf_kD, z])] at e
      cases e
      exact ⟨v0, by unfold valV; rw [List.find?_cons_of_pos (by simp [z])]; rfl, h⟩
    · rw [if_neg (show ¬ keyOf (kD k0) = some k by rw [keyOf_kD]; intro q; injection q with q; exact z q)] at e
      obtain ⟨v, e1, r⟩ := t.val e
      exact ⟨v, by unfold valV at e1 ⊢; rw [List.find?_cons_of_neg (by simp [z])]; exact e1, r⟩
def putD (es : List (D × D)) (k : Key) (d : D) : List (D × D) := if (es.any fun e => decide (keyOf e.1 = some k)) = true then es.map (fun e => if keyOf e.1 = some k then (e.1, d) else e) else es ++ [(kD k, d)]
theorem RpKV.any {M : Addr → Prop} {H : Hp} (k : Key) : ∀ {kvs : List (Key × V)} {es : List (D × D)}, RpKV M H kvs es → (kvs.any fun kv => decide (kv.1 = k)) = es.any fun e => decide (keyOf e.1 = some k)
  | _, _, .nil => rfl
  | _, _, .cons (k := k0) h t => by
    rw [List.any_cons, List.any_cons, t.any k]
    congr 1
    show decide (k0 = k) = decide (keyOf (kD k0) = some k)
    rw [keyOf_kD]
    exact decide_eq_decide.mpr ⟨fun h => by rw [h], fun h => by injection h⟩
theorem RpKV.app {M : Addr → Prop} {H : Hp} {k : Key} {v : V} {d : D} (r : Rp M H v d) : ∀ {kvs : List (Key × V)} {es : List (D × D)}, RpKV M H kvs es → RpKV M H (kvs ++ [(k, v)]) (es ++ [(kD k, d)])
  | _, _, .nil => .cons r .nil
  | _, _, .cons h t => .cons h (t.app r)
theorem RpKV.mapP {M : Addr → Prop} {H : Hp} {k : Key} {v : V} {d : D} (r : Rp M H v d) : ∀ {kvs : List (Key × V)} {es : List (D × D)}, RpKV M H kvs es → RpKV M H (kvs.map fun kv => if kv.1 = k then (kv.1, v) else kv) (es.map fun e => if keyOf e.1 = some k then (e.1, d) else e)
  | _, _, .nil => .nil
  | _, _, .cons (k := k0) (v := v0) (d := d0) h t => by
    rw [List.map_cons, List.map_cons]
    by_cases z : k0 = k
    · rw [if_pos z, if_pos (show keyOf (kD k0) = some k by rw [keyOf_kD, z])]
      exact .cons r (t.mapP r)
    · rw [if_neg z, if_neg (show ¬ keyOf (kD k0) = some k by rw [keyOf_kD]; intro q; injection q with q; exact z q)]
      exact .cons h (t.mapP r)
theorem RpKV.put {M : Addr → Prop} {H : Hp} {k : Key} {v : V} {d : D} {kvs : List (Key × V)} {es : List (D × D)} (t : RpKV M H kvs es) (r : Rp M H v d) : RpKV M H (putK kvs k v) (putD es k d) := by
  unfold putK putD
  rw [t.any k]
  split
  · exact t.mapP r
  · exact t.app r
theorem RpKV.len {M : Addr → Prop} {H : Hp} : ∀ {kvs : List (Key × V)} {es : List (D × D)}, RpKV M H kvs es → kvs.length = es.length
  | _, _, .nil => rfl
  | _, _, .cons _ t => congrArg (· + 1) t.len
theorem putK_len (kvs : List (Key × V)) (k : Key) (v : V) : (putK kvs k v).length ≤ kvs.length + 1 := by
  unfold putK
  split
  · rw [List.length_map]; omega
  · rw [List.length_append]; exact Nat.le_refl _
def dcGo (p : Pat) (c : Rho → Option Bool) (fk fv : EF) (ρ : Rho) : List D → List (D × D) → Option (List (D × D))
  | [], acc => some acc
  | x :: xs, acc => (bindP p x ρ).bind fun ρ1 => (c ρ1).bind fun b => if b = true then (fk ρ1).bind fun dk => (keyOf dk).bind fun k => (fv ρ1).bind fun d => dcGo p c fk fv ρ xs (putD acc k d) else dcGo p c fk fv ρ xs acc
def eDc (μ : Bool) (vs : List Nat) (it : Rho → Option (List D)) (p : Pat) (c : Rho → Option Bool) (fk fv : EF) : EF := fun ρ => (it ρ).bind fun items => (dcGo p c fk fv (wipeR (shutR μ ρ) vs) items []).map .dict
theorem dcCore {K : PySem.W.Frag} {μ μk μi pr : Bool} {M0 : Addr → Prop} {H0 H1 : Hp} {σ : L2.St} {ρ : Rho} {J : It} {items : List D} {res : List (D × D)} {p : Pat} {c : Rho → Option Bool} {fk fv : EF} {vs : List Nat} {D : Addr} {Qd : Hp → Prop}
    (R : Rs M0 H0 H1 σ ρ) (dw : ∀ M', (∀ a, M' a → Mu μ M0 σ ρ a ∨ H1 a = none) → DW pr M' H1 J items) (hD : H1 D = none) (hp : p.fits pr = true) (hs : ∀ j, j ∈ slP p → j ∈ vs) (e : dcGo p c fk fv (wipeR (shutR μ ρ) vs) items [] = some res)
    (q : ∀ H kvs, Same H1 H → H D = some (.dK kvs) → RpKV (Mi μ M0 σ ρ D) H kvs res → Qd H) :
    ∃ W : Nat → Nat → Hp → Prop, (∃ m, W 0 m (upd H1 D (.dK []))) ∧ ∀ i m H, W i m H →
      (J.stop i H ∧ Qd H) ∨ (J.go i H ∧ ∃ Nx : Hp → Prop, (∀ H', Nx H' → ∃ m', m' < m ∧ W (i + 1) m' H') ∧ ∀ x H', J.yld i H x H' → gP K p x (wipe σ vs) H' fun σ2 H2 => wipe σ2 vs = wipe σ vs ∧ tT c σ2 H2 fun b H3 =>
        if b = true then tD μk fk σ2 H3 fun y H4 => tD μi fv σ2 H4 fun z H5 => ∃ kvs k, y = kV k ∧ H5 D = some (.dK kvs) ∧ kvs.length < sizeLine ∧ Nx (upd H5 D (.dK (putK kvs k z))) else Nx H3) := by
  have dw := dw (Mi μ M0 σ ρ D) fun a m => m.elim .inl fun z => .inr (by rw [z]; exact hD)
  have sz := dw.sz
  obtain ⟨G, Y, W, hG, hY⟩ := dw.ex
  let I : Nat → Hp → Prop := fun i H => Same H1 H ∧ ∃ kvs acc, H D = some (.dK kvs) ∧ kvs.length ≤ i ∧ RpKV (Mi μ M0 σ ρ D) H kvs acc ∧ dcGo p c fk fv (wipeR (shutR μ ρ) vs) (items.drop i) acc = some res
  refine ⟨fun i m H => i ≤ items.length ∧ m = items.length - i ∧ I i H, ⟨_, Nat.zero_le _, rfl, smN hD, [], [], upd_same, Nat.le_refl _, .nil, e⟩, ?_⟩
  rintro i m H ⟨hi, rfl, sm, kvs, acc, eD, la, ra, er⟩
  by_cases hlt : i < items.length
  · refine .inr ⟨W.goes i H hlt (hG _ (.of sm)), fun H' => I (i + 1) H', fun H' h => ⟨items.length - (i + 1), by omega, hlt, rfl, h⟩, fun v H' y => ?_⟩
    obtain ⟨d, ed, s2, rv⟩ := hY i v H H' (.of sm) (W.yields i H v H' hlt (hG _ (.of sm)) y)
    rw [drop_at ed] at er
    unfold dcGo at er
    obtain ⟨ρ1, e1, er⟩ := some_bind er
    obtain ⟨b, eb, er⟩ := some_bind er
    have Rin := R.inner (μ := μ) hD (sm.trans s2) (s2 _ _ eD) vs
    refine bindP.ok (pr := pr) Rin ?_ hp e1 fun σ2 R2 B2 => ⟨wipe_eq B2.oth B2.len hs, _, _, ρ1, b, R2, eb, fun H3 s3 => ?_⟩
    · rcases rv with rv | ⟨zp, a, xs, ds, z1, z2, z3, z4⟩
      · exact .inl (rv.reM fun a m => .inl (Mi.noOwn a m))
      · exact .inr ⟨zp, a, xs, ds, z1, z2, z3, z4.reM fun a m => .inl (Mi.noOwn a m)⟩
    have s13 := (sm.trans s2).trans s3
    cases b with
    | true =>
      obtain ⟨dk, edk, er⟩ := some_bind (show (fk ρ1).bind _ = some res from er)
      obtain ⟨k, ek, er⟩ := some_bind er
      obtain ⟨dv, edv, er⟩ := some_bind er
      refine ⟨_, _, ρ1, dk, R2.mono s3, edk, fun y H4 s4 r4 => ⟨_, _, ρ1, dv, (R2.mono s3).mono s4, edv, fun z H5 s5 r5 => ?_⟩⟩
      have s35 := s3.trans (s4.trans s5)
      have eD5 := (s2.trans s35) _ _ eD
      have kp : KpM (Mi μ M0 σ ρ D) H5 (upd H5 D (.dK (putK kvs k z))) := fun q o n e => by
        rw [upd_ne (fun z => n (.inr z))]
        exact e
      have r5 : Rp (Mi μ M0 σ ρ D) H5 z dv := r5.reM fun a m => .inl (.inl m)
      refine ⟨kvs, k, r4.key ek, eD5, by omega, fun q o e => ?_, putK kvs k z, putD acc k dv, upd_same, Nat.le_trans (putK_len _ _ _) (by omega), ?_, er⟩
      · rw [upd_ne (ne_of_none e hD)]
        exact (s13.trans (s4.trans s5)) _ _ e
      · exact ((ra.mono (.of (s2.trans s35))).mono kp).put (r5.mono kp)
    | false =>
      exact ⟨s13, kvs, acc, (s2.trans s3) _ _ eD, by omega, ra.mono (.of (s2.trans s3)), er⟩
  · have : i = items.length := by omega
    subst this
    rw [List.drop_length] at er
    cases er
    exact .inl ⟨W.stops H (hG _ (.of sm)), q H kvs sm eD ra⟩
section
variable {X : Cx} {K : PySem.W.Frag}
theorem dE_dc {e : Expr} {it : Rho → Option (List D)} {p : Pat} {c : Rho → Option Bool} {fk fv : EF} {vs : List Nat} {μ μk μi pr : Bool} (h : PE X e (tDc (iD μ pr it) (gP K p) (tT c) (tD μk fk) (tD μi fv) vs)) (hp : p.fits pr = true := by rfl) (hs : ∀ j, j ∈ slP p → j ∈ vs := by decide) : PE X e (tD μ (eDc μ vs it p c fk fv)) := h.wk fun σ H Q q => by
  obtain ⟨M0, H0, ρ, d, R, e, q⟩ := q
  obtain ⟨items, ei, e⟩ := some_bind e
  obtain ⟨res, er, rfl⟩ := some_map e
  exact ⟨M0, H0, ρ, items, R, ei, fun J H1 s1 dw D hD => dcCore (R.mono s1) dw hD hp hs er fun H2 kvs s2 eD ra => q _ _ (s1.trans s2) (.dic eD (((R.mono s1).domu μ).not hD) (ra.reM fun a m => .inl (.inl m)))⟩
theorem dE_dget {o i : Expr} {pos : Pos} {f1 f2 : EF} {μ : Bool} (hu : X.A.units + 1 < cLine) (ho : PE X o (tD μ f1)) (hi : PE X i (tD μ f2)) (hs : NoSl i := by exact fun _ _ => rfl) : PE X (.Subscript o i pos) (tD μ (e2 dgD f1 f2)) := (pe_dget hu ho hi hs).wk fun σ H Q q => by
  obtain ⟨M0, H0, ρ, d, R, e, q⟩ := q
  obtain ⟨a, ea, e⟩ := some_bind e
  obtain ⟨b, eb, e⟩ := some_bind e
  refine ⟨M0, H0, ρ, a, R, ea, fun x H1 s1 r1 => ⟨M0, H0, ρ, b, R.mono s1, eb, fun y H2 s2 r2 => ?_⟩⟩
  cases r1 with
  | @dic a kvs es t n h =>
    obtain ⟨k, ek, e⟩ := some_bind e
    obtain ⟨v, ev, rv⟩ := (h.mono (.of s2)).val e
    exact ⟨_, v, rfl, .inl ⟨kvs, k, .inl (s2 _ _ t), r2.key ek, ev.symm⟩, q v H2 (s1.trans s2) rv⟩
  | non => cases e
  | bl b => cases e
  | int i => cases e
  | str x hx => cases e
  | tup t n l r => cases e
  | lst t n l r => cases e
/-! ### a list of one's own, put otherwise at a place -/
def sPut (i : Nat) (f fi : EF) : Rho → Option Out := fun ρ => (f ρ).bind fun d => match ρ[i]? with
  | some (some (.own ds)) => (fi ρ).bind fun x => match x with
    | .int k => (ixN ds.length k).map fun j => .nx (ρ.set i (some (.own (ds.set j d))))
    | _ => none
  | _ => none
theorem dS_put {st : Stmt} {i : Nat} {f fi : EF} (h : PS X st (tAsg (tD true f) (gSub (tVar i) (tD true fi) rSetLL))) : PS X st (tS (sPut i f fi)) := h.wk fun Dn σ H q => by
  obtain ⟨M0, H0, ρ, o, R, e, q⟩ := tS_iff.mp q
  obtain ⟨d, ed, e⟩ := some_bind e
  split at e
  · rename_i ds z
    obtain ⟨x, ex, e⟩ := some_bind e
    cases x <;> try (cases e; done)
    rename_i k
    obtain ⟨j, ej, rfl⟩ := some_map e
    refine ⟨M0, H0, ρ, d, R, ed, fun v H1 s1 r1 => ?_⟩
    obtain ⟨p, vs, a, c, h0, l, r⟩ := (R.mono s1).own i ds z
    refine ⟨.ref p, a, M0, H0, ρ, .int k, R.mono s1, ex, fun y H2 s2 r2 => ?_⟩
    cases r2
    refine ⟨p, vs, k, j, rfl, rfl, s2 _ _ c, by rw [r.len]; exact ej, fun H3 e3 => ?_⟩
    subst e3
    obtain ⟨R3, S3⟩ := ((R.mono s1).mono s2).ownSet z a (s2 _ _ c) (vs' := vs.set j v) (by rw [List.length_set]; exact l) (RpAll.set (r1.mono (.of s2)) j (r.mono (.of s2)))
    exact q _ _ R3 ((Stp.of (s1.trans s2)).trans S3)
  · cases e
/-! ### walks downwards -/
def dnD (hi : Int) (n : Nat) : List D := (List.range n).map fun (i : Nat) => PyData.int (hi - (i : Int))
theorem dnD_len (hi : Int) (n : Nat) : (dnD hi n).length = n := by unfold dnD; rw [List.length_map, List.length_range]
theorem DW.rngC {M : Addr → Prop} {H : Hp} {hi : Int} {n : Nat} (l : n ≤ sizeLine) : DW false M H (Itc hi (-1) n) (dnD hi n) := by
  have hl := dnD_len hi n
  refine ⟨⟨fun _ => True, fun i H x H' => i < n ∧ YFn (fun i => V.int (hi + (i : Nat) * (-1))) i H x H', ?_, fun _ _ => trivial, fun i v Ha Hb k y => ?_⟩, by rw [hl]; exact l⟩
  · rw [hl]
    exact ⟨walk_rangeC.goes, walk_rangeC.stops, fun i H x H' hi g y => ⟨hi, walk_rangeC.yields i H x H' hi g y⟩⟩
  · obtain ⟨hi2, rfl, rfl⟩ := y
    refine ⟨.int (hi + (i : Nat) * (-1)), ?_, Same.refl _, .inl (.int _)⟩
    unfold dnD
    rw [List.getElem?_map, List.getElem?_range hi2]
    show some (PyData.int (hi - (i : Int))) = _
    rw [show hi - (i : Int) = hi + (i : Int) * (-1) by omega]
def ran3D : List D → Option (List D)
  | [.int i, .int j, .int c] => if c = -1 ∧ j ≤ i ∧ -(2 ^ 40) ≤ j ∧ i < 2 ^ 20 ∧ i - j < 2 ^ 20 then some (dnD i (i - j).toNat) else none
  | _ => none
theorem rgc_dn {i j : Int} (h1 : j ≤ i) (h2 : -(2 ^ 40) ≤ j) (h3 : i < 2 ^ 20) : RgC i j (-1) (i - j).toNat := by
  refine ⟨by decide, by decide, ?_, ?_⟩
  · have e : Builtin.Range.rangeSize i j (-1) = i - j := by
      unfold Builtin.Range.rangeSize
      simp
      omega
    unfold Builtin.Range.small Builtin.Range.rangeFitsLong
    rw [e]
    simp
    omega
  · unfold Builtin.Range.rangeSize
    simp
    by_cases h : j < i
    · simp [h]; omega
    · simp [h]; omega
theorem dI_ran3 {tg a b c : Expr} {p pos : Pos} {f : Rho → Option (List D)} {μ : Bool} (hg : Gl X "range") (hm : X.mg "range" = none) (ha : PA X [a, b, c] (tA μ f)) (hs : starEach [a, b, c] X.env = (false, eval a X.env) :: starEach [b, c] X.env := by rfl) (hs2 : (backTo pos (starEach [b, c] X.env)).any (·.1) = false := by rfl) : PI X tg (.Call (.Name "range" p) [a, b, c] [] pos) (iD μ false (itG ran3D f)) := (pi_range3 hg hm ha hs hs2).wk fun σ H R q => by
  obtain ⟨M0, H0, ρ, items, Rr, e, q⟩ := q
  obtain ⟨ds, ed, e⟩ := some_bind e
  refine ⟨M0, H0, ρ, ds, Rr, ed, fun vs H1 s1 r1 => ?_⟩
  unfold ran3D at e
  split at e
  · rename_i i j c
    obtain ⟨⟨rfl, l1, l2, l3, l4⟩, rfl⟩ := iteS e
    cases r1 with
    | cons h1 r1 =>
      cases h1
      cases r1 with
      | cons h2 r1 =>
        cases h2
        cases r1 with
        | cons h3 r1 =>
          cases h3
          cases r1
          exact ⟨i, j, -1, _, rfl, rgc_dn l1 l2 l3, q _ _ s1 fun M' hM => DW.rngC (szR (by omega))⟩
  · cases e
def revR1 (f : EF) : Rho → Option (List D) := fun ρ => (f ρ).bind fun d => match d with
  | .int n => if 0 ≤ n ∧ n < 2 ^ 20 then some (dnD (n - 1) n.toNat) else none
  | _ => none
theorem dI_rev1 {tg a : Expr} {p pos p2 pos2 : Pos} {f : EF} {μ : Bool} (hg : Gl X "reversed") (hm : X.mg "reversed" = none) (hg2 : Gl X "range") (hm2 : X.mg "range" = none) (ha : PE X a (tD μ f)) (na : starEach [a] X.env = (false, eval a X.env) :: starEach [] X.env := by rfl) : PI X tg (.Call (.Name "reversed" p) [.Call (.Name "range" p2) [a] [] pos2] [] pos) (iD μ false (revR1 f)) := (pi_revR hg hm (prg_1 hg2 hm2 ha na)).wk fun σ H R q => by
  obtain ⟨M0, H0, ρ, items, Rr, e, q⟩ := q
  obtain ⟨d, ed, e⟩ := some_bind e
  refine ⟨M0, H0, ρ, d, Rr, ed, fun v H1 s1 r1 => ?_⟩
  cases r1 <;> try (cases e; done)
  rename_i n
  obtain ⟨⟨l1, l2⟩, rfl⟩ := iteS e
  refine ⟨n, rfl, by omega, by omega, by omega, by omega, ?_⟩
  rw [show (0 : Int) + (((n - 0).toNat : Nat) : Int) - 1 = n - 1 by omega, show (n - 0).toNat = n.toNat by omega]
  exact q _ _ s1 fun M' hM => DW.rngC (szR (by omega))
end
end Dl
namespace Dl
open PySem PySem.Spec PyProof.Rows L2 Rt
/-! ### moved and trimmed -/
def mvD (m : Int) : D → D
  | .tuple [a, b, .int t] => .tuple [a, b, .int (t + m)]
  | .tuple [a, b, .int t, e] => .tuple [a, b, .int (t + m), e]
  | d => d
theorem mvD_d (m : Int) (r : Rw) : mvD m r.d = (r.mv m).d := by cases r <;> rfl
def isRws (L : List D) : Prop := ∃ rs : List Rw, L = rs.map Rw.d
theorem isRws.at {L : List D} (h : isRws L) {i : Nat} {d : D} (e : L[i]? = some d) : ∃ r : Rw, d = r.d := by
  obtain ⟨rs, rfl⟩ := h
  rw [List.getElem?_map] at e
  cases hr : rs[i]? with
  | none => rw [hr] at e; cases e
  | some r => rw [hr] at e; cases e; exact ⟨r, rfl⟩
def SMov : Sem (List D × Int) where
  enc := fun (L, m) => [.tuple L, .int m]
  ok := fun (L, _) => isRws L
  out := fun (L, m) => .tuple (L.map (mvD m))
  fn := fun {x y} _ _ e => by
    obtain ⟨L, m⟩ := x
    obtain ⟨L', m'⟩ := y
    cases e
    rfl
def SPts : Sem D where
  enc := fun d => [d]
  ok := fun d => ∃ r : Rw, d = r.d
  out := fun d => .tuple ((ptsD d).map .int)
  fn := fun {x y} _ _ e => by cases e; rfl
def enKV : Nat → List Nat → List (D × D)
  | _, [] => []
  | j, i :: r => (.int (i : Nat), .int (j : Nat)) :: enKV (j + 1) r
theorem enKV_inj : ∀ {j : Nat} {a b : List Nat}, enKV j a = enKV j b → a = b
  | _, [], [], _ => rfl
  | _, [], _ :: _, e => nomatch e
  | _, _ :: _, [], e => nomatch e
  | j, x :: a, y :: b, e => by
    injection e with e1 e2
    injection e1 with e1 _
    rw [nat_i e1, enKV_inj e2]
theorem look_en {p : Int} (h0 : 0 ≤ p) : ∀ {nd : List Nat} {j : Nat}, p.toNat ∈ nd → lookD (.inl p) (enKV j nd) = some (.int ((j + nd.idxOf p.toNat : Nat) : Int))
  | [], _, h => nomatch h
  | i :: r, j, h => by
    show (if keyOf (PyData.int (i : Nat)) = some (.inl p) then some (PyData.int (j : Nat)) else lookD (.inl p) (enKV (j + 1) r)) = _
    by_cases e : i = p.toNat
    · rw [if_pos (by show some (Sum.inl (i : Int)) = some (.inl p); rw [show ((i : Nat) : Int) = p by omega]), List.idxOf_cons, e]
      simp
    · rw [if_neg (by
        intro q
        have q : some (Sum.inl (i : Int)) = (some (.inl p) : Option Key) := q
        injection q with q
        injection q with q
        omega), look_en h0 ((List.mem_cons.mp h).resolve_left fun z => e z.symm), List.idxOf_cons]
      rw [show (i == p.toNat) = false by simpa using e]
      show some (PyData.int ((j + 1 + r.idxOf p.toNat : Nat) : Int)) = some (PyData.int ((j + (r.idxOf p.toNat + 1) : Nat) : Int))
      rw [show j + 1 + r.idxOf p.toNat = j + (r.idxOf p.toNat + 1) by omega]
def SLed : Sem (D × List Nat) where
  enc := fun (d, nd) => [d, .dict (enKV 0 nd)]
  ok := fun (d, nd) => ∃ r : Rw, d = r.d ∧ r.pts.length ≤ 1000 ∧ ∀ p ∈ r.pts, 0 ≤ p ∧ p.toNat ∈ nd
  out := fun (d, nd) => renD (rk nd) d
  fn := fun {x y} _ _ e => by
    obtain ⟨d, nd⟩ := x
    obtain ⟨d', nd'⟩ := y
    injection e with e1 e
    injection e with e2 _
    injection e2 with e2
    cases e1
    cases enKV_inj e2
    rfl
structure okPp (L : List D) : Prop where
  ne : L ≠ []
  rws : isRws L
  ahd : Ahd (L.map ptsD)
  len : L.length ≤ 1000
  pl : ∀ d ∈ L, (ptsD d).length ≤ 1000
theorem okPp.of {X : Wd} {rs : List Rw} {ts : List Tg} (hX : X.ok) (h : GdI X rs ts) (ne : rs ≠ []) (hl : rs.length ≤ 1000) : okPp (rs.map Rw.d) := by
  refine ⟨fun e => ne (by simpa using e), ⟨rs, rfl⟩, by rw [ptsD_map]; exact h.ahd, by rw [List.length_map]; exact hl, fun d hd => ?_⟩
  obtain ⟨r, hr, rfl⟩ := List.mem_map.mp hd
  obtain ⟨i, hi⟩ := List.getElem?_of_mem hr
  have g := (h.row i r hi).1
  rw [ptsD_d]
  cases r with
  | br j r t => exact Nat.zero_le _
  | md j y t ns =>
    show ns.length ≤ 1000
    have := (hX.ws y (List.mem_of_getElem? g.1)).p3
    have := g.2.2.2.1
    omega
noncomputable def SGon : Sem (List D) where
  enc := fun L => [.tuple L]
  ok := okPp
  out := fun L => .list ((Nd (L.map ptsD)).map fun (i : Nat) => .int (i : Nat))
  fn := fun {x y} _ _ e => by cases e; rfl
noncomputable def STrm : Sem (List D) where
  enc := fun L => [.tuple L]
  ok := okPp
  out := fun L => .tuple (trmD L)
  fn := fun {x y} _ _ e => by cases e; rfl
/-! marks -/
def mark (bs : List Bool) (p : Int) : List Bool := bs.set p.toNat true
theorem mark_len (ps : List Int) : ∀ bs : List Bool, (ps.foldl mark bs).length = bs.length := by
  induction ps with
  | nil => exact fun _ => rfl
  | cons p ps ih => exact fun bs => (ih _).trans (List.length_set ..)
theorem mark_get {i : Nat} : ∀ (ps : List Int) (bs : List Bool), (ps.foldl mark bs)[i]? = some true ↔ bs[i]? = some true ∨ (i < bs.length ∧ ∃ p ∈ ps, Int.toNat p = i)
  | [], bs => by simp
  | p :: ps, bs => by
    rw [List.foldl_cons, mark_get ps]
    unfold mark
    rw [List.length_set, List.getElem?_set]
    by_cases e : p.toNat = i
    · rw [if_pos e]
      by_cases h : i < bs.length
      · rw [if_pos (by omega)]
        simp [h, e]
      · rw [if_neg (by omega), List.getElem?_eq_none (by omega)]
        simp [h]
    · rw [if_neg e]
      simp [e]
def gonR (L : List D) (bs : List Bool) (x y : Option LV) : Rho := [some (.dat (.tuple L)), some (.own (bs.map .bool)), x, y, none, none]
def gonI : Rho → Option Out := sPut 1 (eC (.bool true)) (eVar 3)
noncomputable def gonB : Rho → Option Out := sIf (oB (e2 ixD (eOwn 1) (eVar 2))) (sFor (itSeq (eCall (gN 1 SPts.f) (aCons (e2 ixD (eVar 0) (eVar 2)) aNil))) (.nm 3) gonI) sNil
theorem put_ev {L : List D} {bs : List Bool} {x : Option LV} {p : Int} (h0 : 0 ≤ p) (h1 : p < bs.length) : gonI (gonR L bs x (some (.dat (.int p)))) = some (.nx (gonR L (mark bs p) x (some (.dat (.int p))))) := by
  show (ixN (bs.map PyData.bool).length p).map (fun j => Out.nx [some (.dat (.tuple L)), some (.own ((bs.map PyData.bool).set j (.bool true))), x, some (.dat (.int p)), none, none]) = _
  have : ixN (bs.map PyData.bool).length p = some p.toNat := by
    rw [List.length_map]
    unfold ixN
    rw [if_pos h0, if_pos (by omega)]
  rw [this]
  show some (Out.nx [_, some (.own ((bs.map PyData.bool).set p.toNat (.bool true))), _, _, _, _]) = _
  unfold gonR mark
  rw [List.map_set]
theorem inner_ev {L : List D} {x : Option LV} : ∀ (ps : List Int) (bs : List Bool) (y : Option LV), (∀ p ∈ ps, 0 ≤ p ∧ p < bs.length) → ∃ y', forGo (.nm 3) gonI (ps.map PyData.int) (gonR L bs x y) = some (.nx (gonR L (ps.foldl mark bs) x y'))
  | [], bs, y, _ => ⟨y, rfl⟩
  | p :: ps, bs, y, h => by
    have hp := h p (by simp)
    obtain ⟨y', e⟩ := inner_ev (L := L) (x := x) ps (mark bs p) (some (.dat (.int p))) fun q hq => by
      have := h q (by simp [hq])
      have e : (mark bs p).length = bs.length := List.length_set ..
      rw [e]
      exact this
    exact ⟨y', (ev_forC (ρ1 := gonR L bs x (some (.dat (.int p)))) rfl (put_ev hp.1 hp.2)).trans e⟩
theorem dnD_succ (m : Nat) : dnD (((m + 1 : Nat) : Int) - 1) (m + 1) = .int (m : Nat) :: dnD ((m : Int) - 1) m := by
  unfold dnD
  rw [List.range_succ_eq_map, List.map_cons, List.map_map]
  congr 1
  · congr 1
    show ((m + 1 : Nat) : Int) - 1 - ((0 : Nat) : Int) = (m : Int)
    omega
  · refine List.map_congr_left fun i _ => ?_
    show PyData.int (((m + 1 : Nat) : Int) - 1 - ((i + 1 : Nat) : Int)) = PyData.int ((m : Int) - 1 - (i : Int))
    congr 1
    omega
theorem outer_ev {L : List D} (hL : okPp L) : ∀ (m : Nat) (bs : List Bool) (x y : Option LV), m ≤ L.length → bs.length = L.length → (∀ i, i < L.length → (bs[i]? = some true ↔ Mk (L.map ptsD) m i)) → ∃ bs' x' y', forGo (.nm 2) gonB (dnD ((m : Int) - 1) m) (gonR L bs x y) = some (.nx (gonR L bs' x' y')) ∧ bs'.length = L.length ∧ ∀ i, i < L.length → (bs'[i]? = some true ↔ Mk (L.map ptsD) 0 i)
  | 0, bs, x, y, _, hb, hm => ⟨bs, x, y, rfl, hb, hm⟩
  | m + 1, bs, x, y, hl, hb, hm => by
    have hmL : m < L.length := by omega
    obtain ⟨d, hd⟩ : ∃ d, L[m]? = some d := ⟨_, List.getElem?_eq_getElem hmL⟩
    obtain ⟨r, rfl⟩ := hL.rws.at hd
    obtain ⟨b, hbm⟩ : ∃ b, bs[m]? = some b := ⟨_, List.getElem?_eq_getElem (by omega)⟩
    have ep : (L.map ptsD)[m]? = some (ptsD r.d) := by rw [List.getElem?_map, hd]; rfl
    have self := (hm m hmL).trans (Mk.self hL.ahd)
    have ec : oB (e2 ixD (eOwn 1) (eVar 2)) (gonR L bs (some (.dat (.int (m : Nat)))) y) = some b := ev_oB (ev_e2 (a := .list (bs.map PyData.bool)) (b := .int (m : Nat)) rfl rfl (at_map hbm))
    have e1 : bindP (.nm 2) (.int (m : Nat)) (gonR L bs x y) = some (gonR L bs (some (.dat (.int (m : Nat)))) y) := rfl
    rw [dnD_succ]
    cases b with
    | false =>
      have nr : ¬ Rch (L.map ptsD) m := fun h => by
        have := self.mpr h
        rw [hbm] at this
        cases this
      obtain ⟨bs', x', y', e, h1, h2⟩ := outer_ev hL m bs (some (.dat (.int (m : Nat)))) y (by omega) hb fun i hi => by
        rw [hm i hi, Mk.step (k := m)]
        exact ⟨.inl, fun h => h.elim id fun h => (nr h.1).elim⟩
      exact ⟨bs', x', y', (ev_forC e1 (ev_ifR ec)).trans e, h1, h2⟩
    | true =>
      have hr : Rch (L.map ptsD) m := self.mp hbm
      have hp := hL.ahd m _ ep
      obtain ⟨y', ei⟩ := inner_ev (L := L) (x := some (.dat (.int (m : Nat)))) (ptsD r.d) bs y fun p hpm => by
        have := hp p hpm
        omega
      have eb : gonB (gonR L bs (some (.dat (.int (m : Nat)))) y) = some (.nx (gonR L ((ptsD r.d).foldl mark bs) (some (.dat (.int (m : Nat)))) y')) := by
        refine (ev_ifR ec).trans ?_
        refine ev_forS (items := (ptsD r.d).map PyData.int) ?_ ei
        have es := Sem.of (S := SPts) (x := r.d) ⟨r, rfl⟩
        have := ev_call (n := 1) (g := SPts.f) (f := aCons (e2 ixD (eVar 0) (eVar 2)) aNil) (ρ := gonR L bs (some (.dat (.int (m : Nat)))) y) (ds := [r.d]) (ev_cons (ev_e2 (a := .tuple L) (b := .int (m : Nat)) rfl rfl (atI_nat hd)) rfl) rfl es
        unfold itSeq
        rw [this]
        rfl
      obtain ⟨bs', x', y2, e, h1, h2⟩ := outer_ev hL m ((ptsD r.d).foldl mark bs) (some (.dat (.int (m : Nat)))) y' (by omega) (by rw [mark_len]; exact hb) fun i hi => by
        rw [mark_get, hm i hi, Mk.step (k := m)]
        constructor
        · rintro (h | ⟨_, p, h1, h2⟩)
          · exact .inl h
          · exact .inr ⟨hr, _, p, ep, h1, h2⟩
        · rintro (h | ⟨_, r2, p, e2, h1, h2⟩)
          · exact .inl h
          · rw [ep] at e2
            cases e2
            exact .inr ⟨by omega, p, h1, h2⟩
      exact ⟨bs', x', y2, (ev_forC e1 eb).trans e, h1, h2⟩
theorem en_range (ds : List D) : enGo 0 ds = (List.range ds.length).map fun (i : Nat) => .tuple [.int (i : Nat), (ds[i]?).getD .none] := by
  apply List.ext_getElem?
  intro i
  rw [List.getElem?_map]
  by_cases h : i < ds.length
  · rw [enGo.get 0 ds i _ (List.getElem?_eq_getElem h), List.getElem?_range h, Nat.zero_add]
    show _ = some (PyData.tuple [PyData.int (i : Nat), (ds[i]?).getD .none])
    rw [List.getElem?_eq_getElem h]
    rfl
  · rw [List.getElem?_eq_none (by rw [enGo.len]; omega), List.getElem?_eq_none (by rw [List.length_range]; omega)]
    rfl
theorem rep_false (L : List D) : (L.map fun _ => PyData.bool false) = (List.replicate L.length false).map PyData.bool := by
  induction L with
  | nil => rfl
  | cons x L ih => rw [List.map_cons, ih]; rfl
section
variable {P : Program} {w : World} {K : PySem.W.Frag} {mg : Str → Option Value} {base : Heap}
theorem ok_pts {f : Addr} {fd : FuncData} (F : Fun K "parts_of" "parts_of" s_parts_of f fd) : FnOk P w K mg base CX0 1 f fd ["row"] (spD 1 SPts.f) := by
  refine okFn F sc_parts_of rfl fun cdv A outer s H E hr => ⟨_, (dSs_one (dS_ret (ps_ret (dE_if (dT_cmp (o_eq hr.units) (dE_ix (dE_var (μ := true) (pv 0)) (dE_c (μ := true) pe_int)) (dE_c (μ := true) pe_str) (nomark _)) (dE_ix (dE_var (μ := true) (pv 0)) (dE_c (μ := true) pe_int)) (dE_tup (dA_nil (μ := true))))))), fun ds d l e => ?_⟩
  obtain ⟨d, ⟨r, rfl⟩, rfl, rfl⟩ := Sem.get e
  refine ⟨.rt (.tuple ((ptsD r.d).map .int)), ?_, rfl⟩
  rw [ptsD_d]
  cases r with
  | br j r t => exact ev_ret (ev_eIf (b := false) (ev_oB ((ev_e2 (a := S "brought") (b := S "made") rfl rfl (eq_ok (by decide +kernel) (by decide +kernel))).trans (congrArg (fun b => some (PyData.bool b)) (by decide +kernel)))) rfl)
  | md j y t ns => exact ev_ret (ev_eIf (b := true) (ev_oB ((ev_e2 (a := S "made") (b := S "made") rfl rfl (eq_ok (by decide +kernel) (by decide +kernel))).trans (congrArg (fun b => some (PyData.bool b)) (by decide +kernel)))) rfl)
theorem ok_led {f : Addr} {fd : FuncData} (F : Fun K "led_along" "led_along" s_led_along f fd) (m_tuple : mg "tuple" = none) : FnOk P w K mg base CX0 1 f fd ["row", "numbers"] (spD 2 SLed.f) := by
  refine okFn F sc_led_along rfl fun cdv A outer s H E hr => ⟨_, (dSs_cons (dS_if (dT_cmp (o_eq hr.units) (dE_ix (dE_var (μ := true) (pv 0)) (dE_c (μ := true) pe_int)) (dE_c (μ := true) pe_str) (nomark _))
    (dSs_one (dS_ret (ps_ret (dE_var (μ := true) (pv 0)))))
    dSs_nil)
  (dSs_one (dS_ret (ps_ret (dE_op o_add (dE_sl (dE_var (μ := true) (pv 0)) dO_none (dO_some (dE_c (μ := true) pe_int))) (dE_tup (dA_cons (dE_callTy c_tuple (by rfl) m_tuple (by decide +kernel) (dA_cons (dE_lc (K := K) (p := (.nm 2)) (pe_lc (own := [("part", 2)]) (g := gP K (.nm 2)) rfl sc_led_along.nd (dI_seq (dE_ix (dE_var (μ := true) (pv 0)) (dE_c (μ := true) pe_int))) (blkOk_by (own := [("part", 2)]) (N := ["row", "numbers", "part"]) (sc := defScope s_led_along) (by decide +kernel)) (fun _ _ _ _ _ => (pg_name (i := 2) sc_led_along.nd rfl (.inl rfl))) (fun _ _ _ _ _ => dTs_nil) (fun _ _ _ _ _ => (dE_dget (u1 hr) (dE_var (μ := true) (pv 1)) (dE_var (μ := true) (pv 2)))))) (dA_nil (μ := true)))) (dA_nil (μ := true))))))))), fun ds d l e => ?_⟩
  obtain ⟨⟨d, nd⟩, ⟨r, rfl, pl, hp⟩, rfl, rfl⟩ := Sem.get e
  refine ⟨.rt (renD (rk nd) r.d), ?_, rfl⟩
  rw [renD_d]
  cases r with
  | br j r t =>
    refine (ev_if (b := true) (ev_oB ((ev_e2 (a := S "brought") (b := S "brought") rfl rfl (eq_ok (by decide +kernel) (by decide +kernel))).trans (congrArg (fun b => some (PyData.bool b)) (by decide +kernel))))).trans ?_
    exact ev_retS rfl
  | md j y t ns =>
    let ρ : Rho := [some (.dat (Rw.md j y t ns).d), some (.dat (.dict (enKV 0 nd))), none]
    refine (ev_if (b := false) (ev_oB ((ev_e2 (a := S "made") (b := S "brought") rfl rfl (eq_ok (by decide +kernel) (by decide +kernel))).trans (congrArg (fun b => some (PyData.bool b)) (by decide +kernel))))).trans ?_
    show sSeq sNil _ ρ = _
    refine (ev_seq (ρ' := ρ) rfl).trans ?_
    refine ev_ret ?_
    have el : eLc true [2] (itSeq (e2 ixD (eVar 0) (eC (.int 3)))) (.nm 2) oYes (e2 dgD (eVar 1) (eVar 2)) ρ = some (.list ((ns.map (rk nd)).map PyData.int)) := by
      refine ev_lcE (items := ns.map PyData.int) rfl ?_
      rw [List.map_map]
      refine ev_lcG (e := PyData.int) (t := PyData.int ∘ rk nd) ns ?_
      intro p hpm
      refine ⟨_, rfl, ?_⟩
      obtain ⟨h0, h1⟩ := hp p hpm
      refine ev_e2 (a := .dict (enKV 0 nd)) (b := .int p) rfl rfl ?_
      show lookD (.inl p) (enKV 0 nd) = _
      rw [look_en h0 h1, Nat.zero_add]
      rfl
    have et : eCall tupD (aCons (eLc true [2] (itSeq (e2 ixD (eVar 0) (eC (.int 3)))) (.nm 2) oYes (e2 dgD (eVar 1) (eVar 2))) aNil) ρ = some (.tuple ((ns.map (rk nd)).map PyData.int)) := by
      unfold eCall
      exact (congrArg (fun o : Option (List D) => o.bind tupD) (ev_cons (ds := []) el rfl)).trans rfl
    exact ev_e2 (a := .tuple [S "made", .int j, .int t]) (b := .tuple [.tuple ((ns.map (rk nd)).map PyData.int)]) rfl (ev_tupX (ds := [.tuple ((ns.map (rk nd)).map PyData.int)]) (ev_cons et rfl) (by simp)) rfl
theorem ok_gon {f : Addr} {fd : FuncData} (F : Fun K "rows_gone_back_to" "rows_gone_back_to" s_rows_gone_back_to f fd) (m_range : mg "range" = none) (m_len : mg "len" = none) (m_enumerate : mg "enumerate" = none) (C_parts_of : Cl P w K mg base 1 "parts_of" ["row"] (spD 1 SPts.f)) : FnOk P w K mg base CX0 2 f fd ["paper"] (spD 1 SGon.f) := by
  refine okFn F sc_rows_gone_back_to rfl fun cdv A outer s H E hr => ⟨_, (dSs_cons (oS_lc (K := K) (p := (.nm 4)) (ps_setLc (i := 1) (own := [("row", 4)]) (g := gP K (.nm 4)) rfl sc_rows_gone_back_to.nd rfl rfl (sw_true rfl rfl rfl (by decide +kernel)) (dI_seq (dE_var (μ := true) (pv 0))) (blkOk_by (own := [("row", 4)]) (N := ["paper", "needed", "k", "part", "row", "wanted"]) (sc := defScope s_rows_gone_back_to) (by decide +kernel)) (fun _ _ _ _ _ => (pg_name (i := 4) sc_rows_gone_back_to.nd rfl (.inl rfl))) (fun _ _ _ _ _ => dTs_nil) (fun _ _ _ _ _ => (dE_c (μ := true) pe_bl))))
  (dSs_cons (dS_put (ps_asg (dE_c (μ := true) pe_bl) (pg_sub (pv 1) (dE_neg (dE_c (μ := true) pe_int)) set_listL)))
  (dSs_cons (dS_for (K := K) (p := (.nm 2)) (ps_for PassesOwn.never rfl (dI_ran3 (by rfl) m_range (dA_cons (dE_op o_sub (dE_callB c_len (by rfl) m_len (by decide +kernel) (dA_cons (dE_var (μ := true) (pv 0)) (dA_nil (μ := true)))) (dE_c (μ := true) pe_int)) (dA_cons (dE_neg (dE_c (μ := true) pe_int)) (dA_cons (dE_neg (dE_c (μ := true) pe_int)) (dA_nil (μ := true)))))) (pg_name (i := 2) sc_rows_gone_back_to.nd rfl (.inl rfl))
    (dSs_one (dS_if (dT_val (dE_ix (dE_own (pv 1)) (dE_var (μ := false) (pv 2))))
    (dSs_one (dS_for (K := K) (p := (.nm 3)) (ps_for PassesOwn.never rfl (dI_seq (dE_cl C_parts_of (hr.mono (by omega)) (by rfl) (dA_cons (dE_ix (dE_var (μ := true) (pv 0)) (dE_var (μ := true) (pv 2))) (dA_nil (μ := true))))) (pg_name (i := 3) sc_rows_gone_back_to.nd rfl (.inl rfl))
    (dSs_one (dS_put (ps_asg (dE_c (μ := true) pe_bl) (pg_sub (pv 1) (dE_var (μ := true) (pv 3)) set_listL)))))))
    dSs_nil))))
  (dSs_one (dS_ret (ps_ret (dE_lc (K := K) (p := (.tp (.cons (.nm 2) (.cons (.nm 5) .nil)))) (pe_lc (own := [("k", 2), ("wanted", 5)]) (g := gP K (.tp (.cons (.nm 2) (.cons (.nm 5) .nil)))) rfl sc_rows_gone_back_to.nd (dI_enum (by rfl) m_enumerate (dA_cons (dE_own (pv 1)) (dA_nil (μ := false)))) (blkOk_by (own := [("k", 2), ("wanted", 5)]) (N := ["paper", "needed", "k", "part", "row", "wanted"]) (sc := defScope s_rows_gone_back_to) (by decide +kernel)) (fun _ _ _ _ _ => (pg_tup (by rfl) (pgs_cons (pg_name (i := 2) sc_rows_gone_back_to.nd rfl (.inl rfl)) (pgs_cons (pg_name (i := 5) sc_rows_gone_back_to.nd rfl (.inl rfl)) pgs_nil)))) (fun _ _ _ _ _ => (pts_one (dT_truth (dE_var (μ := true) (pv 5))))) (fun _ _ _ _ _ => (dE_var (μ := true) (pv 2))))))))))), fun ds d l e => ?_⟩
  obtain ⟨L, hL, rfl, rfl⟩ := Sem.get e
  refine ⟨.rt (.list ((Nd (L.map ptsD)).map fun (i : Nat) => .int (i : Nat))), ?_, rfl⟩
  have hl := hL.len
  have h0 : 0 < L.length := List.length_pos_iff.mpr hL.ne
  refine (ev_seq (ρ' := gonR L (List.replicate L.length false) none none) ?_).trans ?_
  · have el : eLc true [4] (itSeq (eVar 0)) (.nm 4) oYes (eC (.bool false)) [some (.dat (.tuple L)), none, none, none, none, none] = some (.list ((List.replicate L.length false).map PyData.bool)) := by
      refine ev_lcE (items := L) rfl ?_
      rw [← rep_false]
      have := ev_lcG (p := .nm 4) (f := eC (.bool false)) (ρ := wipeR (shutR true [some (.dat (.tuple L)), none, none, none, none, none]) [4]) (e := id) (t := fun _ => PyData.bool false) L fun x _ => ⟨_, rfl, rfl⟩
      rwa [List.map_id] at this
    show (eLc true [4] (itSeq (eVar 0)) (.nm 4) oYes (eC (.bool false)) [some (.dat (.tuple L)), none, none, none, none, none]).bind _ = _
    rw [el]
    rfl
  refine (ev_seq (ρ' := gonR L ((List.replicate L.length false).set (L.length - 1) true) none none) ?_).trans ?_
  · show (ixN ((List.replicate L.length false).map PyData.bool).length (-1)).map (fun j => Out.nx [some (.dat (.tuple L)), some (.own (((List.replicate L.length false).map PyData.bool).set j (.bool true))), none, none, none, none]) = _
    have : ixN ((List.replicate L.length false).map PyData.bool).length (-1) = some (L.length - 1) := by
      rw [List.length_map, List.length_replicate]
      unfold ixN
      rw [if_neg (by decide), if_pos (by omega)]
      congr 1
      omega
    rw [this]
    show some (Out.nx [_, some (.own (((List.replicate L.length false).map PyData.bool).set (L.length - 1) (.bool true))), _, _, _, _]) = _
    unfold gonR
    rw [List.map_set]
  obtain ⟨bs, x', y', ef, h1, h2⟩ := outer_ev hL L.length ((List.replicate L.length false).set (L.length - 1) true) none none (Nat.le_refl _) (by rw [List.length_set, List.length_replicate]) fun i hi => by
    have top := Mk.top (ps := L.map ptsD) (i := i)
    rw [List.length_map] at top
    rw [top, List.getElem?_set]
    by_cases e : L.length - 1 = i
    · rw [if_pos e, if_pos (by rw [List.length_replicate]; omega)]
      exact ⟨fun _ => by omega, fun _ => rfl⟩
    · rw [if_neg e, List.getElem?_replicate]
      simp [hi]
      omega
  refine (ev_seq (ρ' := gonR L bs x' y') (ev_forS (items := dnD ((L.length : Int) - 1) L.length) ?_ ef)).trans ?_
  · refine ev_itG (ds := [.int ((L.length : Int) - 1), .int (-1), .int (-1)]) rfl ?_
    show (if _ then _ else none) = _
    rw [if_pos ⟨rfl, by omega, by omega, by omega, by omega⟩]
    congr 2
    omega
  refine ev_ret (ev_lcE (items := enGo 0 (bs.map PyData.bool)) rfl ?_)
  rw [en_range, List.length_map, h1]
  have eN : Nd (L.map ptsD) = (List.range L.length).filter fun i => bs[i]? == some true := by
    unfold Nd
    rw [List.length_map]
    refine List.filter_congr fun i hi => ?_
    rw [Bool.eq_iff_iff, rchB_iff, beq_iff_eq, h2 i (List.mem_range.mp hi), Mk.zero]
  rw [eN]
  refine ev_lcGF (e := fun (i : Nat) => PyData.tuple [.int (i : Nat), ((bs.map PyData.bool)[i]?).getD .none]) (t := fun (i : Nat) => PyData.int (i : Nat)) (k := fun i => bs[i]? == some true) (List.range L.length) ?_
  intro i hi
  have hi := List.mem_range.mp hi
  obtain ⟨b, hb⟩ : ∃ b, bs[i]? = some b := ⟨_, List.getElem?_eq_getElem (by omega)⟩
  have e1 : ((bs.map PyData.bool)[i]?).getD .none = .bool b := by rw [List.getElem?_map, hb]; rfl
  rw [e1, hb]
  refine ⟨_, rfl, ?_, rfl⟩
  cases b <;> rfl
theorem put_new {es : List (D × D)} {k : Key} {d : D} (h : ∀ e ∈ es, keyOf e.1 ≠ some k) : putD es k d = es ++ [(kD k, d)] := by
  unfold putD
  rw [if_neg]
  intro e
  obtain ⟨x, hx, hk⟩ := List.any_eq_true.mp e
  exact h x hx (of_decide_eq_true hk)
theorem enKV_app (a : List Nat) (b : Nat) : ∀ j, enKV j (a ++ [b]) = enKV j a ++ [(.int (b : Nat), .int ((j + a.length : Nat) : Int))] := by
  induction a with
  | nil => exact fun j => rfl
  | cons x a ih =>
    intro j
    show (PyData.int (x : Nat), PyData.int (j : Nat)) :: enKV (j + 1) (a ++ [b]) = _
    rw [ih, List.length_cons, show j + 1 + a.length = j + (a.length + 1) by omega]
    rfl
theorem enKV_key {e : D × D} : ∀ {a : List Nat} {j : Nat}, e ∈ enKV j a → ∃ i ∈ a, e.1 = .int ((i : Nat) : Int)
  | [], _, h => nomatch h
  | x :: a, j, h => by
    rcases List.mem_cons.mp (show e ∈ (PyData.int (x : Nat), PyData.int (j : Nat)) :: enKV (j + 1) a from h) with rfl | h
    · exact ⟨x, by simp, rfl⟩
    · obtain ⟨i, hi, e⟩ := enKV_key h
      exact ⟨i, by simp [hi], e⟩
theorem dc_ev {ρ : Rho} (h3 : 3 < ρ.length) (h4 : 4 < ρ.length) : ∀ (b a : List Nat), (a ++ b).Pairwise (· < ·) → dcGo (.tp (.cons (.nm 3) (.cons (.nm 4) .nil))) oYes (eVar 4) (eVar 3) ρ (enGo a.length (b.map fun (i : Nat) => .int (i : Nat))) (enKV 0 a) = some (enKV 0 (a ++ b))
  | [], a, _ => by rw [List.append_nil]; rfl
  | x :: b, a, pw => by
    have e1 : bindP (.tp (.cons (.nm 3) (.cons (.nm 4) .nil))) (.tuple [.int (a.length : Nat), .int (x : Nat)]) ρ = some ((ρ.set 3 (some (.dat (.int (a.length : Nat))))).set 4 (some (.dat (.int (x : Nat))))) := by
      show (bindP (.nm 3) _ ρ).bind _ = _
      unfold bindP
      rw [if_pos h3]
      show (bindP (.nm 4) _ _).bind _ = _
      unfold bindP
      rw [if_pos (by rw [List.length_set]; exact h4)]
      rfl
    have e4 : eVar 4 ((ρ.set 3 (some (.dat (.int (a.length : Nat))))).set 4 (some (.dat (.int (x : Nat))))) = some (.int (x : Nat)) := by
      unfold eVar
      rw [set_same (by rw [List.length_set]; exact h4)]
    have e3 : eVar 3 ((ρ.set 3 (some (.dat (.int (a.length : Nat))))).set 4 (some (.dat (.int (x : Nat))))) = some (.int (a.length : Nat)) := by
      unfold eVar
      rw [set_other (by decide), set_same h3]
    show (bindP (.tp (.cons (.nm 3) (.cons (.nm 4) .nil))) (.tuple [.int (a.length : Nat), .int (x : Nat)]) ρ).bind _ = _
    rw [e1]
    show (eVar 4 _).bind _ = _
    rw [e4]
    show (eVar 3 _).bind _ = _
    rw [e3]
    show dcGo _ _ _ _ _ _ (putD (enKV 0 a) (.inl (x : Nat)) (.int (a.length : Nat))) = _
    rw [put_new fun e he => by
      obtain ⟨i, hi, ee⟩ := enKV_key he
      rw [ee]
      intro q
      have q : some (Sum.inl (i : Int)) = (some (.inl (x : Int)) : Option Key) := q
      injection q with q
      injection q with q
      have := (List.pairwise_append.mp pw).2.2 i hi x (by simp)
      omega]
    have := dc_ev h3 h4 b (a ++ [x]) (by rw [List.append_assoc]; exact pw)
    rw [enKV_app, List.append_assoc, Nat.zero_add, List.length_append] at this
    exact this
theorem ok_trm {f : Addr} {fd : FuncData} (F : Fun K "trimmed" "trimmed" s_trimmed f fd) (m_tuple : mg "tuple" = none) (m_enumerate : mg "enumerate" = none) (C_rows_gone_back_to : Cl P w K mg base 2 "rows_gone_back_to" ["paper"] (spD 1 SGon.f)) (C_led_along : Cl P w K mg base 1 "led_along" ["row", "numbers"] (spD 2 SLed.f)) : FnOk P w K mg base CX0 3 f fd ["paper"] (spD 1 STrm.f) := by
  refine okFn F sc_trimmed rfl fun cdv A outer s H E hr => ⟨_, (dSs_cons (dS_asg (K := K) (p := .nm 1) (ps_set (i := 1) sc_trimmed.nd rfl (.inl rfl) (dE_cl C_rows_gone_back_to (hr.mono (by omega)) (by rfl) (dA_cons (dE_var (μ := true) (pv 0)) (dA_nil (μ := true))))))
  (dSs_cons (dS_asg (K := K) (p := .nm 2) (ps_set (i := 2) sc_trimmed.nd rfl (.inr rfl) (dE_dc (K := K) (p := (.tp (.cons (.nm 3) (.cons (.nm 4) .nil)))) (pe_dc (own := [("new", 3), ("old", 4)]) (g := gP K (.tp (.cons (.nm 3) (.cons (.nm 4) .nil)))) rfl sc_trimmed.nd (dI_enum (by rfl) m_enumerate (dA_cons (dE_var (μ := true) (pv 1)) (dA_nil (μ := true)))) (blkOk_by (own := [("new", 3), ("old", 4)]) (N := ["paper", "needed", "numbers", "new", "old"]) (sc := defScope s_trimmed) (by decide +kernel)) (fun _ _ _ _ _ => (pg_tup (by rfl) (pgs_cons (pg_name (i := 3) sc_trimmed.nd rfl (.inl rfl)) (pgs_cons (pg_name (i := 4) sc_trimmed.nd rfl (.inl rfl)) pgs_nil)))) (fun _ _ _ _ _ => dTs_nil) (fun _ _ _ _ _ => (dE_var (μ := true) (pv 4))) (fun _ _ _ _ _ => (dE_var (μ := true) (pv 3)))))))
  (dSs_one (dS_ret (ps_ret (dE_callTy c_tuple (by rfl) m_tuple (by decide +kernel) (dA_cons (dE_lc (K := K) (p := (.nm 4)) (pe_lc (own := [("old", 4)]) (g := gP K (.nm 4)) rfl sc_trimmed.nd (dI_seq (dE_var (μ := true) (pv 1))) (blkOk_by (own := [("old", 4)]) (N := ["paper", "needed", "numbers", "new", "old"]) (sc := defScope s_trimmed) (by decide +kernel)) (fun _ _ _ _ _ => (pg_name (i := 4) sc_trimmed.nd rfl (.inl rfl))) (fun _ _ _ _ _ => dTs_nil) (fun _ _ _ _ _ => (dE_cl C_led_along (hr.mono (by omega)) (by rfl) (dA_cons (dE_ix (dE_var (μ := true) (pv 0)) (dE_var (μ := true) (pv 4))) (dA_cons (dE_var (μ := true) (pv 2)) (dA_nil (μ := true)))))))) (dA_nil (μ := true))))))))), fun ds d l e => ?_⟩
  obtain ⟨L, hL, rfl, rfl⟩ := Sem.get e
  refine ⟨.rt (.tuple (trmD L)), ?_, rfl⟩
  let nd := Nd (L.map ptsD)
  let N : D := .list (nd.map fun (i : Nat) => .int (i : Nat))
  refine (ev_asg (d := N) (ρ' := [some (.dat (.tuple L)), some (.dat N), none, none, none]) (ev_call rfl rfl (Sem.of (S := SGon) (x := L) hL)) rfl).trans ?_
  refine (ev_asg (d := .dict (enKV 0 nd)) (ρ' := [some (.dat (.tuple L)), some (.dat N), some (.dat (.dict (enKV 0 nd))), none, none]) ?_ rfl).trans ?_
  · show (dcGo (.tp (.cons (.nm 3) (.cons (.nm 4) .nil))) oYes (eVar 4) (eVar 3) [some (.dat (.tuple L)), some (.dat N), none, none, none] (enGo 0 (nd.map fun (i : Nat) => .int (i : Nat))) []).map PyData.dict = _
    rw [show (([] : List (D × D))) = enKV 0 [] from rfl]
    have := dc_ev (ρ := [some (.dat (.tuple L)), some (.dat N), none, none, none]) (by show 3 < 5; decide) (by show 4 < 5; decide) nd [] (Nd.pw _)
    rw [show ([] : List Nat).length = 0 from rfl] at this
    rw [this]
    rfl
  refine ev_ret ?_
  let ρ : Rho := [some (.dat (.tuple L)), some (.dat N), some (.dat (.dict (enKV 0 nd))), none, none]
  have el : eLc true [4] (itSeq (eVar 1)) (.nm 4) oYes (eCall (gN 2 SLed.f) (aCons (e2 ixD (eVar 0) (eVar 4)) (aCons (eVar 2) aNil))) ρ = some (.list (trmD L)) := by
    refine ev_lcE (items := nd.map fun (i : Nat) => .int (i : Nat)) rfl ?_
    refine ev_lcG (e := fun (i : Nat) => PyData.int (i : Nat)) (t := fun i => renD (rk nd) ((L[i]?).getD .none)) nd ?_
    intro i hi
    refine ⟨_, rfl, ?_⟩
    have rc := (Nd.mem hL.ahd).mp hi
    have lt := rc.lt hL.ahd
    rw [List.length_map] at lt
    obtain ⟨d, hd⟩ : ∃ d, L[i]? = some d := ⟨_, List.getElem?_eq_getElem lt⟩
    rw [hd]
    obtain ⟨r, hr'⟩ := hL.rws.at hd
    have ep : (L.map ptsD)[i]? = some r.pts := by rw [List.getElem?_map, hd, hr']; exact congrArg some (ptsD_d r)
    refine ev_call (ds := [d, .dict (enKV 0 nd)]) (ev_cons (ev_e2 (a := .tuple L) (b := .int (i : Nat)) rfl rfl (atI_nat hd)) rfl) rfl (Sem.of (S := SLed) (x := (d, nd)) ⟨r, hr', ?_, fun p hp => ?_⟩)
    · have := hL.pl d (List.mem_of_getElem? hd)
      rwa [hr', ptsD_d] at this
    · exact ⟨(hL.ahd i _ ep p hp).1, (Nd.mem hL.ahd).mpr (.part rc ep hp)⟩
  show eCall tupD _ _ = _
  unfold eCall
  exact (congrArg (fun o : Option (List D) => o.bind tupD) (ev_cons (ds := []) el rfl)).trans rfl
end
end Dl
namespace Dl
open PySem PySem.Spec PyProof.Rows L2 Rt
/-! ### things of a paper without fault -/
def STh0 : Sem (Wd × D) where
  enc := fun (X, d) => [X.d, d]
  ok := fun (X, d) => X.ok ∧ gq d = true ∧ fltP X d = .none
  out := fun (X, d) => .tuple ((tldP X d).map Tg.d)
  fn := fun {x y} _ _ e => by
    obtain ⟨X, d⟩ := x
    obtain ⟨X', d'⟩ := y
    injection e with e1 e
    injection e with e2 e
    cases Wd.inj e1
    cases e2
    rfl
theorem gq_rw {r : Rw} (h : r.pts.length ≤ 1000) : gq r.d = true := by
  have hS : ∀ x : String, PyData.strOk (Str.ofString x) = true → gq (S x) = true := fun x h => h
  cases r with
  | br j r t =>
    show (decide (3 ≤ 1000) && (gq (S "brought") && (true && (true && true)))) = true
    rw [hS "brought" (by decide +kernel)]
    rfl
  | md j y t ns =>
    have h : ns.length ≤ 1000 := h
    have e : gqAll (ns.map PyData.int) = true := gqAll.of fun d hd => by
      obtain ⟨i, _, rfl⟩ := List.mem_map.mp hd
      rfl
    show (decide (4 ≤ 1000) && (gq (S "made") && (gq (.int (j : Nat)) && (gq (.int t) && ((decide ((ns.map PyData.int).length ≤ 1000) && gqAll (ns.map PyData.int)) && true))))) = true
    rw [e, List.length_map, decide_eq_true h, hS "made" (by decide +kernel)]
    rfl
theorem gq_rows {rs : List Rw} (hl : rs.length ≤ 1000) (h : ∀ r ∈ rs, r.pts.length ≤ 1000) : gq (.tuple (rs.map Rw.d)) = true := by
  show (decide ((rs.map Rw.d).length ≤ 1000) && gqAll (rs.map Rw.d)) = true
  rw [List.length_map, decide_eq_true hl]
  exact gqAll.of fun d hd => by
    obtain ⟨r, hr, rfl⟩ := List.mem_map.mp hd
    exact gq_rw (h r hr)
theorem okD_S (x : String) (h : PyData.strOk (Str.ofString x) = true := by decide +kernel) : okD (S x) = true := okD_str h
theorem dp_rw {r : Rw} (h : r.pts.length ≤ 1000) : dpA 3 r.d := by
  cases r with
  | br j r t =>
    refine ⟨by show 3 ≤ 1000; decide, fun d hd => ?_⟩
    simp only [List.mem_cons, List.not_mem_nil, or_false] at hd
    rcases hd with rfl | rfl | rfl
    · exact okD_S "brought"
    · exact (rfl : okD (.int _) = true)
    · exact (rfl : okD (.int _) = true)
  | md j y t ns =>
    refine ⟨by show 4 ≤ 1000; decide, fun d hd => ?_⟩
    simp only [List.mem_cons, List.not_mem_nil, or_false] at hd
    rcases hd with rfl | rfl | rfl | rfl
    · exact okD_S "made"
    · exact (rfl : okD (.int _) = true)
    · exact (rfl : okD (.int _) = true)
    · refine ⟨by rw [List.length_map]; exact h, fun d hd => ?_⟩
      obtain ⟨i, _, rfl⟩ := List.mem_map.mp hd
      exact (rfl : okD (.int _) = true)
theorem dp_rows {rs : List Rw} (hl : rs.length ≤ 1000) (h : ∀ r ∈ rs, r.pts.length ≤ 1000) : dpA 4 (.tuple (rs.map Rw.d)) := by
  refine ⟨by rw [List.length_map]; exact hl, fun d hd => ?_⟩
  obtain ⟨r, hr, rfl⟩ := List.mem_map.mp hd
  exact dp_rw (h r hr)
theorem dp_tgs {ts : List Tg} (hl : ts.length ≤ 1000) (h : ∀ g ∈ ts, PyData.strOk g.k = true) : dpA 4 (.tuple (ts.map Tg.d)) := by
  refine ⟨by rw [List.length_map]; exact hl, fun d hd => ?_⟩
  obtain ⟨g, hg, rfl⟩ := List.mem_map.mp hd
  refine ⟨by show 3 ≤ 1000; decide, fun d hd => ?_⟩
  simp only [List.mem_cons, List.not_mem_nil, or_false] at hd
  rcases hd with rfl | rfl | rfl
  · exact okD_str (h g hg)
  · exact (rfl : okD (.int _) = true)
  · exact (rfl : okD (.int _) = true)
theorem GdI.pl {X : Wd} (hX : X.ok) {rs : List Rw} {ts : List Tg} (h : GdI X rs ts) : ∀ r ∈ rs, r.pts.length ≤ 1000 := fun r hr => by
  obtain ⟨i, hi⟩ := List.getElem?_of_mem hr
  have g := (h.row i r hi).1
  cases r with
  | br j r t => exact Nat.zero_le _
  | md j y t ns =>
    show ns.length ≤ 1000
    have := (hX.ws y (List.mem_of_getElem? g.1)).p3
    have := g.2.2.2.1
    omega
theorem GdI.sk {X : Wd} (hX : X.ok) {rs : List Rw} {ts : List Tg} (h : GdI X rs ts) : ∀ g ∈ ts, PyData.strOk g.k = true := fun g hg => by
  obtain ⟨i, hi⟩ := List.getElem?_of_mem hg
  have hl := h.len
  have hil := (List.getElem?_eq_some_iff.mp hi).1
  obtain ⟨r, hr⟩ : ∃ r, rs[i]? = some r := ⟨_, List.getElem?_eq_getElem (by omega)⟩
  obtain ⟨a, b⟩ := h.row i r hr
  rw [hi] at b
  injection b with b
  rw [b]
  exact tgOf_ok hX a.ok
theorem GdI.flt {X : Wd} {rs : List Rw} {ts : List Tg} (h : GdI X rs ts) (ne : rs ≠ []) : fltP X (.tuple (rs.map Rw.d)) = .none ∧ tldP X (.tuple (rs.map Rw.d)) = ts := by
  have w := (GdI.toGd rs.length rfl h).walk
  cases rs with
  | nil => exact (ne rfl).elim
  | cons r rs =>
    have w : walkP X 0 [] (r.d :: rs.map Rw.d) = (none, ts) := w
    constructor
    · show fltD (walkP X 0 [] (r.d :: rs.map Rw.d)).1 = .none
      rw [w]
      rfl
    · show (walkP X 0 [] (r.d :: rs.map Rw.d)).2 = ts
      rw [w]
theorem GdI.thg {X : Wd} (hX : X.ok) {rs : List Rw} {ts : List Tg} (h : GdI X rs ts) (ne : rs ≠ []) (hl : rs.length ≤ 1000) : STh0.f [X.d, .tuple (rs.map Rw.d)] = some (.tuple (ts.map Tg.d)) := by
  have := Sem.of (S := STh0) (x := (X, .tuple (rs.map Rw.d))) ⟨hX, gq_rows hl (h.pl hX), (h.flt ne).1⟩
  exact this.trans (congrArg (fun z : List Tg => some (PyData.tuple (z.map Tg.d))) (h.flt ne).2)
theorem trm_ne {X : Wd} {rs : List Rw} {ts : List Tg} (h : GdI X rs ts) (ne : rs ≠ []) : trm rs ≠ [] := fun e => by
  have hp : 0 < (rs.map Rw.pts).length := by rw [List.length_map]; exact List.length_pos_iff.mpr ne
  have : (rs.map Rw.pts).length - 1 ∈ ndR rs := (Nd.mem h.ahd).mpr (.last hp)
  have hl : (trm rs).length = (ndR rs).length := List.length_map ..
  rw [e] at hl
  rw [List.length_eq_zero_iff.mp hl.symm] at this
  cases this
theorem nd_le {X : Wd} {rs : List Rw} : (ndR rs).length ≤ rs.length := by
  have := List.length_filter_le (rchB (rs.map Rw.pts)) (List.range (rs.map Rw.pts).length)
  rw [List.length_range] at this
  rw [List.length_map] at this
  unfold ndR Nd
  rw [List.length_map]
  exact this
theorem eqv_int (a b : Int) : PyData.eqv (.int a) (.int b) = (a == b) := rfl
section
variable {P : Program} {w : World} {K : PySem.W.Frag} {mg : Str → Option Value} {base : Heap}
theorem ok_things0 {f : Addr} {fd : FuncData} (F : Fun K "things" "things" s_things f fd) (m_tuple : mg "tuple" = none) (C_followed : Cl P w K mg base 5 "followed" ["world", "thing"] (spD 2 SFol.f)) : FnOk P w K mg base CX0 6 f fd ["world", "paper"] (spD 2 STh0.f) := by
  refine okFn F sc_things rfl fun cdv A outer s H E hr => ⟨_, (dSs_cons (dS_asg (K := K) (p := (.tp (.cons (.nm 2) (.cons (.nm 3) .nil)))) (ps_asg (dE_cl C_followed (hr.mono (by omega)) (by rfl) (dA_cons (dE_var (μ := true) (pv 0)) (dA_cons (dE_var (μ := true) (pv 1)) (dA_nil (μ := true))))) (pg_tup (by rfl) (pgs_cons (pg_name (i := 2) sc_things.nd rfl (.inl rfl)) (pgs_cons (pg_name (i := 3) sc_things.nd rfl (.inl rfl)) pgs_nil)))))
  (dSs_cons (dS_if (dT_cmp o_isnot (dE_var (μ := true) (pv 2)) (dE_c (μ := true) pe_non) (nomark _))
    (dSs_cons (dS_asg (K := K) (p := (.tp (.cons (.nm 4) (.cons (.nm 5) .nil)))) (ps_asg (dE_var (μ := true) (pv 2)) (pg_tup (by rfl) (pgs_cons (pg_name (i := 4) sc_things.nd rfl (.inl rfl)) (pgs_cons (pg_name (i := 5) sc_things.nd rfl (.inl rfl)) pgs_nil)))))
  (dSs_one dS_no))
    dSs_nil)
  (dSs_one (dS_ret (ps_ret (dE_callTy c_tuple (by rfl) m_tuple (by decide +kernel) (dA_cons (dE_var (μ := true) (pv 3)) (dA_nil (μ := true))))))))), fun ds d l e => ?_⟩
  obtain ⟨⟨X, d⟩, ⟨hX, hq, h0⟩, rfl, rfl⟩ := Sem.get e
  refine ⟨.rt (.tuple ((tldP X d).map Tg.d)), ?_, rfl⟩
  have ef : SFol.f [X.d, d] = some (.tuple [fltP X d, .list ((tldP X d).map Tg.d)]) := (Sem.of (S := SFol) (x := (X, d)) ⟨hX, hq⟩).trans (congrArg some fol_two)
  refine (ev_asg (d := .tuple [fltP X d, .list ((tldP X d).map Tg.d)]) (ρ' := [some (.dat X.d), some (.dat d), some (.dat (fltP X d)), some (.dat (.list ((tldP X d).map Tg.d))), none, none]) (ev_call (ds := [X.d, d]) rfl rfl ef) rfl).trans ?_
  refine (ev_if (b := false) (ev_oB (ev_e2 (a := fltP X d) (b := .none) rfl rfl (by have h0 : fltP X d = .none := h0; rw [h0]; rfl)))).trans ?_
  rfl
theorem ok_alike4 {f : Addr} {fd : FuncData} (F : Fun K "_law_alike" "_law_alike" s_law_alike f fd) (b : Binds K fd ["_law_one_here", "_law_other"] []) (g : mg "_law_alike" = some (.ref f)) (m_isinstance : mg "isinstance" = none) (m_tuple : mg "tuple" = none) (m_bool : mg "bool" = none) (m_int : mg "int" = none) (m_str : mg "str" = none) (m_len : mg "len" = none) (m_all : mg "all" = none) (m_zip : mg "zip" = none) : FnOk P w K mg base CX0 4 f fd ["_law_one_here", "_law_other"] (spD 2 (sAl (dpA 4))) :=
  ok_alikeS F m_isinstance m_tuple m_bool m_int m_str m_len m_all m_zip ⟨f, fd, ok_alike F b g m_isinstance m_tuple m_bool m_int m_str m_len m_all m_zip, g, F.kp, b⟩
end
end Dl
namespace Dl
open PySem PySem.Spec PyProof.Rows L2 Rt
/-! ### alike of any two plain things -/
theorem depth_all {n : Nat} : ∀ {ds : List D}, (∀ d ∈ ds, d.depth ≤ n) → PyData.depthAll ds ≤ n
  | [], _ => Nat.zero_le _
  | x :: xs, h => by
    show max x.depth (PyData.depthAll xs) ≤ n
    have h1 := h x (by simp)
    have h2 := depth_all (ds := xs) fun d hd => h d (by simp [hd])
    omega
theorem dpA_ok : ∀ {n : Nat} {d : D}, n ≤ 60 → dpA n d → okD d = true ∧ d.depth ≤ n
  | 0, d, _, h => h.elim
  | n + 1, .tuple ds, hn, h => by
    have ih := fun d hd => dpA_ok (n := n) (d := d) (by omega) (h.2 d hd)
    refine ⟨okT fun d hd => ⟨(ih d hd).1, by have := (ih d hd).2; omega⟩, ?_⟩
    show PyData.depthAll ds + 1 ≤ n + 1
    have := depth_all (n := n) (ds := ds) fun d hd => (ih d hd).2
    omega
  | n + 1, .list _, _, h => h.elim
  | n + 1, .dict _, _, h => h.elim
  | n + 1, .none, _, h => ⟨h, Nat.zero_le _⟩
  | n + 1, .bool _, _, h => ⟨h, Nat.zero_le _⟩
  | n + 1, .int _, _, h => ⟨h, Nat.zero_le _⟩
  | n + 1, .str _, _, h => ⟨h, Nat.zero_le _⟩
noncomputable def sameB (a b : D) : Bool := @decide (a = b) (Classical.propDecidable _)
theorem sameB_iff {a b : D} : sameB a b = true ↔ a = b := @decide_eq_true_iff _ (Classical.propDecidable _)
theorem sameB_self (a : D) : sameB a a = true := sameB_iff.mpr rfl
theorem sameB_ne {a b : D} (h : a ≠ b) : sameB a b = false := by
  cases e : sameB a b with
  | false => rfl
  | true => exact (h (sameB_iff.mp e)).elim
noncomputable def sAq (n : Nat) : List D → Option D := fun ds => match ds with
  | [a, b] => @ite _ (dpA n a ∧ dpA n b) (Classical.propDecidable _) (some (.bool (sameB a b))) none
  | _ => none
theorem sAq_of {n : Nat} {a b : D} (ha : dpA n a) (hb : dpA n b) : sAq n [a, b] = some (.bool (sameB a b)) := @if_pos _ (Classical.propDecidable _) ⟨ha, hb⟩ _ _ _
theorem sAq_ok {n : Nat} {a : D} (h : dpA n a) : sAq n [a, a] = some (.bool true) := by rw [sAq_of h h, sameB_self]
theorem zip_same : ∀ {xs ys : List D}, xs.length = ys.length → ((xs.zip ys).all fun z => sameB z.1 z.2) = sameB (.tuple xs) (.tuple ys)
  | [], [], _ => (sameB_self _).symm
  | x :: xs, y :: ys, h => by
    rw [List.zip_cons_cons, List.all_cons, zip_same (by simpa using h)]
    by_cases e : x = y
    · subst e
      rw [sameB_self, Bool.true_and]
      by_cases e2 : xs = ys
      · subst e2; rw [sameB_self, sameB_self]
      · rw [sameB_ne fun z => e2 (by injection z), sameB_ne fun z => e2 (by injection z with z; injection z)]
    · rw [sameB_ne e, sameB_ne (a := .tuple (x :: xs)) fun z => e (by injection z with z; injection z)]
      rfl
def isBo : D → Bool
  | .bool _ => true
  | _ => false
def isNu : D → Bool
  | .int _ => true
  | .bool _ => true
  | _ => false
theorem isi_bo (d : D) : isTy "bool" d = some (.bool (isBo d)) := (isi_bool d).trans (by cases d <;> rfl)
theorem isi_nu (d : D) : isTy "int" d = some (.bool (isNu d)) := (isi_int d).trans (by cases d <;> rfl)
theorem eqv_same {a b : D} (ha : okD a = true) (hb : okD b = true) (hab : isTup a = false ∨ isTup b = false) (h1 : dpA 60 a) (h2 : dpA 60 b) (hbo : isBo a = isBo b) (hnu : isNu a = isNu b) : PyData.eqv a b = sameB a b := by
  by_cases e : a = b
  · subst e; rw [eqv_refl ha, sameB_self]
  · rw [sameB_ne e]
    cases a with
    | list _ => exact h1.elim
    | dict _ => exact h1.elim
    | none =>
      cases b with
      | none => exact (e rfl).elim
      | list _ => exact h2.elim
      | dict _ => exact h2.elim
      | bool _ => cases hbo
      | int _ => cases hnu
      | str _ => rfl
      | tuple _ => rfl
    | bool x =>
      cases b with
      | bool y => exact beq_false_of_ne fun z => e (by rw [z])
      | none => cases hbo
      | int _ => cases hbo
      | str _ => cases hbo
      | tuple _ => cases hbo
      | list _ => cases hbo
      | dict _ => cases hbo
    | int x =>
      cases b with
      | int y => exact beq_false_of_ne fun z => e (by rw [z])
      | none => cases hnu
      | bool _ => cases hbo
      | str _ => cases hnu
      | tuple _ => cases hnu
      | list _ => cases hnu
      | dict _ => cases hnu
    | str x =>
      cases b with
      | str y => exact beq_false_of_ne fun z => e (by rw [z])
      | none => rfl
      | bool _ => cases hbo
      | int _ => cases hnu
      | tuple _ => rfl
      | list _ => exact h2.elim
      | dict _ => exact h2.elim
    | tuple x =>
      cases b with
      | tuple y => rcases hab with h | h <;> cases h
      | none => rfl
      | bool _ => cases hbo
      | int _ => cases hnu
      | str _ => rfl
      | list _ => exact h2.elim
      | dict _ => exact h2.elim
theorem dpA_le : ∀ {n m : Nat} {d : D}, n ≤ m → dpA n d → dpA m d
  | 0, _, _, _, h => h.elim
  | n + 1, 0, _, hn, _ => absurd hn (Nat.not_succ_le_zero _)
  | n + 1, m + 1, .tuple ds, hn, h => ⟨h.1, fun d hd => dpA_le (Nat.le_of_succ_le_succ hn) (h.2 d hd)⟩
  | n + 1, m + 1, .list _, _, h => h.elim
  | n + 1, m + 1, .dict _, _, h => h.elim
  | n + 1, m + 1, .none, _, h => h
  | n + 1, m + 1, .bool _, _, h => h
  | n + 1, m + 1, .int _, _, h => h
  | n + 1, m + 1, .str _, _, h => h
section
variable {P : Program} {w : World} {K : PySem.W.Frag} {mg : Str → Option Value} {base : Heap}
theorem ok_aqS {f : Addr} {fd : FuncData} {k n : Nat} (hn : n ≤ 50) (F : Fun K "_law_alike" "_law_alike" s_law_alike f fd) (m_isinstance : mg "isinstance" = none) (m_tuple : mg "tuple" = none) (m_bool : mg "bool" = none) (m_int : mg "int" = none) (m_str : mg "str" = none) (m_len : mg "len" = none) (m_all : mg "all" = none) (m_zip : mg "zip" = none)
    (C__law_alike : Cl P w K mg base k "_law_alike" ["_law_one_here", "_law_other"] (spD 2 (sAq n))) : FnOk P w K mg base CX0 (k + 1) f fd ["_law_one_here", "_law_other"] (spD 2 (sAq (n + 1))) := by
  refine okFn F sc_law_alike rfl fun cdv A outer s H E hr => ⟨_, (dSs_cons (dS_if (PW.pt (dW_and (dT_val (dE_isi (dE_var (μ := true) (pv 0)) (pe_bltn (v := .ty "tuple") (by rfl) m_tuple (by decide +kernel) rfl) (by rfl) m_isinstance (by decide +kernel))) (dW_and1 (dT_val (dE_isi (dE_var (μ := true) (pv 1)) (pe_bltn (v := .ty "tuple") (by rfl) m_tuple (by decide +kernel) rfl) (by rfl) m_isinstance (by decide +kernel))))))
    (dSs_one (dS_ret (ps_ret (dE_and (dE_cmp (o_eq hr.units) (dE_callB c_len (by rfl) m_len (by decide +kernel) (dA_cons (dE_var (μ := true) (pv 0)) (dA_nil (μ := true)))) (dE_callB c_len (by rfl) m_len (by decide +kernel) (dA_cons (dE_var (μ := true) (pv 1)) (dA_nil (μ := true)))) (nomark _)) (dE_one (dE_callB (c_all rfl) (by rfl) m_all (by decide +kernel) (dA_cons (dE_lc (K := K) (p := (.tp (.cons (.nm 2) (.cons (.nm 3) .nil)))) (pe_lc (own := [("_law_a", 2), ("_law_b", 3)]) (g := gP K (.tp (.cons (.nm 2) (.cons (.nm 3) .nil)))) rfl sc_law_alike.nd (dI_zip (by rfl) m_zip (dA_cons (dE_var (μ := true) (pv 0)) (dA_cons (dE_var (μ := true) (pv 1)) (dA_nil (μ := true))))) (blkOk_by (own := [("_law_a", 2), ("_law_b", 3)]) (N := ["_law_one_here", "_law_other", "_law_a", "_law_b"]) (sc := defScope s_law_alike) (by decide +kernel)) (fun _ _ _ _ _ => (pg_tup (by rfl) (pgs_cons (pg_name (i := 2) sc_law_alike.nd rfl (.inl rfl)) (pgs_cons (pg_name (i := 3) sc_law_alike.nd rfl (.inl rfl)) pgs_nil)))) (fun _ _ _ _ _ => dTs_nil) (fun _ _ _ _ _ => (dE_cl C__law_alike (hr.mono (by omega)) (by rfl) (dA_cons (dE_var (μ := true) (pv 2)) (dA_cons (dE_var (μ := true) (pv 3)) (dA_nil (μ := true)))))))) (dA_nil (μ := true)))))))))
    dSs_nil)
  (dSs_cons (dS_if (PW.pt (dW_or (dT_val (dE_isi (dE_var (μ := true) (pv 0)) (pe_bltn (v := .ty "bool") (by rfl) m_bool (by decide +kernel) rfl) (by rfl) m_isinstance (by decide +kernel))) (dW_or1 (dT_val (dE_isi (dE_var (μ := true) (pv 1)) (pe_bltn (v := .ty "bool") (by rfl) m_bool (by decide +kernel) rfl) (by rfl) m_isinstance (by decide +kernel))))))
    (dSs_one (dS_ret (ps_ret (dE_and (dE_isi (dE_var (μ := true) (pv 0)) (pe_bltn (v := .ty "bool") (by rfl) m_bool (by decide +kernel) rfl) (by rfl) m_isinstance (by decide +kernel)) (dE_and (dE_isi (dE_var (μ := true) (pv 1)) (pe_bltn (v := .ty "bool") (by rfl) m_bool (by decide +kernel) rfl) (by rfl) m_isinstance (by decide +kernel)) (dE_one (dE_cmp (o_eq hr.units) (dE_var (μ := true) (pv 0)) (dE_var (μ := true) (pv 1)) (nomark _))))))))
    dSs_nil)
  (dSs_cons (dS_if (dT_cmp (o_ne hr.units) (dE_isi (dE_var (μ := true) (pv 0)) (pe_bltn (v := .ty "int") (by rfl) m_int (by decide +kernel) rfl) (by rfl) m_isinstance (by decide +kernel)) (dE_isi (dE_var (μ := true) (pv 1)) (pe_bltn (v := .ty "int") (by rfl) m_int (by decide +kernel) rfl) (by rfl) m_isinstance (by decide +kernel)) (nomark _))
    (dSs_one (dS_ret (ps_ret (dE_c (μ := true) pe_bl))))
    dSs_nil)
  (dSs_one (dS_ret (ps_ret (dE_and (dE_cmp (o_eq hr.units) (dE_isi (dE_var (μ := true) (pv 0)) (pe_bltn (v := .ty "str") (by rfl) m_str (by decide +kernel) rfl) (by rfl) m_isinstance (by decide +kernel)) (dE_isi (dE_var (μ := true) (pv 1)) (pe_bltn (v := .ty "str") (by rfl) m_str (by decide +kernel) rfl) (by rfl) m_isinstance (by decide +kernel)) (nomark _)) (dE_one (dE_cmp (o_eq hr.units) (dE_var (μ := true) (pv 0)) (dE_var (μ := true) (pv 1)) (nomark _)))))))))), fun ds d l e => ?_⟩
  match ds, e with
  | [a, b], e =>
    have e : @ite _ (dpA (n + 1) a ∧ dpA (n + 1) b) (Classical.propDecidable _) (some (PyData.bool (sameB a b))) none = some d := e
    by_cases hc : dpA (n + 1) a ∧ dpA (n + 1) b
    rotate_left
    · rw [if_neg hc] at e
      cases e
    rw [if_pos hc] at e
    cases e
    obtain ⟨pa, pb⟩ := hc
    refine ⟨.rt (.bool (sameB a b)), ?_, rfl⟩
    have oka := (dpA_ok (by omega) pa).1
    have okb := (dpA_ok (by omega) pb).1
    let ρ : Rho := [some (.dat a), some (.dat b), none, none]
    have ta : oB (e1 (isTy "tuple") (eVar 0)) ρ = some (isTup a) := ev_oB (isiV rfl (isi_tup a))
    have tb : oB (e1 (isTy "tuple") (eVar 1)) ρ = some (isTup b) := ev_oB (isiV rfl (isi_tup b))
    refine (ev_if (b := isTup a && isTup b) ((ev_oAnd ta).trans (by cases isTup a <;> first | rfl | exact tb))).trans ?_
    by_cases hT : isTup a = true ∧ isTup b = true
    · rw [hT.1, hT.2]
      obtain ⟨xs, rfl⟩ : ∃ xs, a = .tuple xs := by
        cases a <;> first | exact ⟨_, rfl⟩ | (cases hT.1)
      obtain ⟨ys, rfl⟩ : ∃ ys, b = .tuple ys := by
        cases b <;> first | exact ⟨_, rfl⟩ | (cases hT.2)
      obtain ⟨xl, px⟩ : xs.length ≤ 1000 ∧ ∀ d ∈ xs, dpA n d := pa
      obtain ⟨yl, py⟩ : ys.length ≤ 1000 ∧ ∀ d ∈ ys, dpA n d := pb
      refine ev_retS (ev_and (b := (xs.length : Int) == ys.length) (ev_e2 (a := .int xs.length) (b := .int ys.length) rfl rfl (eq_ok rfl rfl)) (fun h => ?_) (fun h => ?_))
      · have hl : xs.length = ys.length := by
          have := eq_of_beq h
          omega
        refine (ev_all (xs := xs.zip ys) (t := fun z => sameB z.1 z.2) (items := zpGo xs ys) rfl ?_).trans ?_
        · rw [zp_zip]
          exact ev_lcP (i := 2) (j := 3) (t := fun x y => .bool (sameB x y)) (by show 2 < 4; decide) (by show 3 < 4; decide) _ fun x hx => ev_call (ds := [x.1, x.2]) rfl rfl (sAq_of (px x.1 (List.of_mem_zip hx).1) (py x.2 (List.of_mem_zip hx).2))
        · rw [← zip_same hl]
      · congr 1
        refine sameB_ne fun z => ?_
        injection z with z
        rw [z, beq_self_eq_true] at h
        cases h
    · rw [show (isTup a && isTup b) = false by
        cases h1 : isTup a <;> cases h2 : isTup b <;> first | rfl | exact (hT ⟨h1, h2⟩).elim]
      refine (show _ = _ from ev_nil).trans ?_
      have hab : isTup a = false ∨ isTup b = false := by
        cases h1 : isTup a with
        | false => exact .inl rfl
        | true =>
          cases h2 : isTup b with
          | false => exact .inr rfl
          | true => exact (hT ⟨h1, h2⟩).elim
      have eqe : e2 eqD (eVar 0) (eVar 1) ρ = some (.bool (PyData.eqv a b)) := ev_e2 rfl rfl (eq_ok oka okb)
      have ba : e1 (isTy "bool") (eVar 0) ρ = some (.bool (isBo a)) := isiV rfl (isi_bo a)
      have bb : e1 (isTy "bool") (eVar 1) ρ = some (.bool (isBo b)) := isiV rfl (isi_bo b)
      have c1 : oOr (oB (e1 (isTy "bool") (eVar 0))) (oB (e1 (isTy "bool") (eVar 1))) ρ = some (isBo a || isBo b) := (ev_oOr (ev_oB ba)).trans (by cases isBo a <;> first | rfl | exact ev_oB bb)
      refine (ev_if c1).trans ?_
      have p60 := dpA_le (m := 60) (by omega) pa
      have q60 := dpA_le (m := 60) (by omega) pb
      by_cases hB : (isBo a || isBo b) = true
      · rw [hB]
        refine ev_retS (ev_and (b := isBo a) ba (fun h1 => ev_and (b := isBo b) bb (fun h2 => ?_) (fun h2 => ?_)) (fun h1 => ?_))
        · rw [eqe]
          congr 2
          have hnu : isNu a = isNu b := by
            cases a <;> try (cases h1; done)
            cases b <;> try (cases h2; done)
            rfl
          exact eqv_same oka okb hab p60 q60 (h1.trans h2.symm) hnu
        · congr 1
          refine sameB_ne fun z => ?_
          rw [z, h2] at h1
          cases h1
        · congr 1
          refine sameB_ne fun z => ?_
          rw [← z, h1] at hB
          cases hB
      · have hB : (isBo a || isBo b) = false := by simpa using hB
        rw [hB]
        obtain ⟨h1, h2⟩ := Bool.or_eq_false_iff.mp hB
        refine (show _ = _ from ev_nil).trans ?_
        have na : e1 (isTy "int") (eVar 0) ρ = some (.bool (isNu a)) := isiV rfl (isi_nu a)
        have nb : e1 (isTy "int") (eVar 1) ρ = some (.bool (isNu b)) := isiV rfl (isi_nu b)
        refine (ev_if (b := !(isNu a == isNu b)) (ev_oB (ev_e2 na nb (by cases isNu a <;> cases isNu b <;> rfl)))).trans ?_
        by_cases hN : isNu a = isNu b
        · rw [hN, beq_self_eq_true]
          refine (show _ = _ from ev_nil).trans ?_
          have sa : e1 (isTy "str") (eVar 0) ρ = some (.bool (isSt a)) := isiV rfl (isi_st a)
          have sb : e1 (isTy "str") (eVar 1) ρ = some (.bool (isSt b)) := isiV rfl (isi_st b)
          refine ev_ret (ev_and (b := isSt a == isSt b) (ev_e2 sa sb (by cases isSt a <;> cases isSt b <;> rfl)) (fun _ => ?_) (fun h => ?_))
          · rw [eqe]
            congr 2
            exact eqv_same oka okb hab p60 q60 (h1.trans h2.symm) hN
          · congr 1
            refine sameB_ne fun z => ?_
            rw [z, beq_self_eq_true] at h
            cases h
        · rw [show (!(isNu a == isNu b)) = true by rw [beq_false_of_ne hN]; rfl]
          refine (ev_retS (d := .bool false) rfl).trans ?_
          congr 2
          rw [sameB_ne fun z => hN (by rw [z])]
theorem ok_aq {f : Addr} {fd : FuncData} (F : Fun K "_law_alike" "_law_alike" s_law_alike f fd) (b : Binds K fd ["_law_one_here", "_law_other"] []) (g : mg "_law_alike" = some (.ref f)) (m_isinstance : mg "isinstance" = none) (m_tuple : mg "tuple" = none) (m_bool : mg "bool" = none) (m_int : mg "int" = none) (m_str : mg "str" = none) (m_len : mg "len" = none) (m_all : mg "all" = none) (m_zip : mg "zip" = none) : FnOk P w K mg base CX0 4 f fd ["_law_one_here", "_law_other"] (spD 2 (sAq 4)) := by
  have s0 : FnOk P w K mg base CX0 0 f fd ["_law_one_here", "_law_other"] (spD 2 (sAq 0)) := ok_never fun ds => by
    unfold sAq
    split
    · exact @if_neg _ (Classical.propDecidable _) (fun h => h.1) _ _ _
    · rfl
  have st : ∀ n : Nat, n ≤ 4 → FnOk P w K mg base CX0 n f fd ["_law_one_here", "_law_other"] (spD 2 (sAq n)) := fun n => by
    induction n with
    | zero => exact fun _ => s0
    | succ n ih => exact fun h => ok_aqS (by omega) F m_isinstance m_tuple m_bool m_int m_str m_len m_all m_zip ⟨f, fd, ih (by omega), g, F.kp, b⟩
  exact st 4 (Nat.le_refl _)
end
end Dl
namespace Dl
open PySem PySem.Spec PyProof.Rows L2 Rt
theorem int_any (ws : List Int) (p : Int) : ((ws.map PyData.int).any fun z => PyData.eqv z (.int p)) = decide (p ∈ ws) := by
  rw [Bool.eq_iff_iff, List.any_eq_true, decide_eq_true_iff]
  constructor
  · rintro ⟨d, hd, e⟩
    obtain ⟨i, hi, rfl⟩ := List.mem_map.mp hd
    have e : (i == p) = true := e
    rw [← eq_of_beq e]
    exact hi
  · intro h
    exact ⟨.int p, List.mem_map.mpr ⟨p, h, rfl⟩, show (p == p) = true from beq_self_eq_true p⟩
theorem ok_ints (ws : List Int) : okD (.list (ws.map PyData.int)) = true := okL fun d hd => by
  obtain ⟨i, _, rfl⟩ := List.mem_map.mp hd
  exact ok_int i
theorem in_ints (ws : List Int) (p : Int) : inD (.int p) (.list (ws.map PyData.int)) = some (.bool (decide (p ∈ ws))) := by
  rw [← int_any]
  show (if (okD (.int p) && okD (.list (ws.map PyData.int))) = true then _ else none) = _
  rw [ok_ints]
  exact if_pos rfl
theorem nin_ints (ws : List Int) (p : Int) : ninD (.int p) (.list (ws.map PyData.int)) = some (.bool (!decide (p ∈ ws))) := by
  rw [← int_any]
  show (if (okD (.int p) && okD (.list (ws.map PyData.int))) = true then _ else none) = _
  rw [ok_ints]
  exact if_pos rfl
end Dl
namespace Dl
open PySem PySem.Spec PyProof.Rows L2 Rt
/-! ### while -/
def whGo (c : Rho → Option Bool) (body : Rho → Option Out) : Nat → Rho → Option Out
  | 0, _ => none
  | n + 1, ρ => (c ρ).bind fun b => if b = true then (body ρ).bind fun o => match o with
    | .nx ρ2 => whGo c body n ρ2
    | .ct ρ2 => whGo c body n ρ2
    | .bk ρ2 => some (.nx ρ2)
    | .rt d => some (.rt d) else some (.nx ρ)
theorem whGo_up {c : Rho → Option Bool} {body : Rho → Option Out} : ∀ {n m : Nat} {ρ : Rho} {o : Out}, n ≤ m → whGo c body n ρ = some o → whGo c body m ρ = some o
  | 0, _, _, _, _, h => nomatch h
  | n + 1, 0, _, _, hn, _ => absurd hn (Nat.not_succ_le_zero _)
  | n + 1, m + 1, ρ, o, hn, h => by
    unfold whGo at h ⊢
    obtain ⟨b, eb, h⟩ := some_bind h
    rw [eb]
    show (if b = true then _ else _) = _
    cases b with
    | false => exact h
    | true =>
      obtain ⟨o1, eo, h⟩ := some_bind (show (body ρ).bind _ = some o from h)
      show (body ρ).bind _ = _
      rw [eo]
      cases o1 with
      | nx ρ2 => exact whGo_up (Nat.le_of_succ_le_succ hn) h
      | ct ρ2 => exact whGo_up (Nat.le_of_succ_le_succ hn) h
      | bk ρ2 => exact h
      | rt d => exact h
noncomputable def sWh (c : Rho → Option Bool) (body : Rho → Option Out) : Rho → Option Out := fun ρ => @dite _ (∃ o n, whGo c body n ρ = some o) (Classical.propDecidable _) (fun h => some h.choose) (fun _ => none)
theorem sWh_of {c : Rho → Option Bool} {body : Rho → Option Out} {ρ : Rho} {o : Out} (n : Nat) (h : whGo c body n ρ = some o) : sWh c body ρ = some o := by
  unfold sWh
  have z : ∃ o n, whGo c body n ρ = some o := ⟨o, n, h⟩
  rw [dif_pos z]
  obtain ⟨m, hm⟩ := z.choose_spec
  have h1 := whGo_up (Nat.le_max_left n m) h
  have h2 := whGo_up (Nat.le_max_right n m) hm
  rw [h1] at h2
  rw [← Option.some.inj h2]
theorem sWh_get {c : Rho → Option Bool} {body : Rho → Option Out} {ρ : Rho} {o : Out} (h : sWh c body ρ = some o) : ∃ n, whGo c body n ρ = some o := by
  unfold sWh at h
  by_cases z : ∃ o n, whGo c body n ρ = some o
  · rw [dif_pos z] at h
    cases h
    exact z.choose_spec
  · rw [dif_neg z] at h
    cases h
section
variable {X : Cx} {K : PySem.W.Frag}
theorem dS_while {st : Stmt} {c : Rho → Option Bool} {body : Rho → Option Out} (h : PS X st (tWhile (tT c) (tS body))) : PS X st (tS (sWh c body)) := h.wk fun Dn σ H q => by
  obtain ⟨M0, H0, ρ, o, R, e, q⟩ := tS_iff.mp q
  obtain ⟨n, e⟩ := sWh_get e
  refine ⟨fun m σ' H' => ∃ ρ', Rs M0 H0 H' σ' ρ' ∧ Stp M0 σ ρ H σ' ρ' H' ∧ whGo c body m ρ' = some o, ⟨n, ρ, R, .refl, e⟩, ?_⟩
  rintro m σ' H' ⟨ρ', R', st, e⟩
  cases m with
  | zero => cases e
  | succ m =>
    unfold whGo at e
    obtain ⟨b, eb, e⟩ := some_bind e
    refine ⟨M0, H0, ρ', b, R', eb, fun H1 s1 => ?_⟩
    cases b with
    | false =>
      cases e
      exact q σ' H1 (R'.mono s1) (st.trans (.of s1))
    | true =>
      obtain ⟨o1, eo, e⟩ := some_bind (show (body ρ').bind _ = some o from e)
      refine ⟨fun σ3 H3 => ∃ ρ3, Rs M0 H0 H3 σ3 ρ3 ∧ Stp M0 σ ρ H σ3 ρ3 H3 ∧ whGo c body m ρ3 = some o, fun σ3 H3 h => ⟨m, Nat.lt_succ_self _, h⟩, tS_iff.mpr ⟨M0, H0, ρ', o1, R'.mono s1, eo, ?_⟩⟩
      have st1 := st.trans (Stp.of (σ := σ') (ρ := ρ') s1)
      cases o1 with
      | nx ρ2 => exact fun σ3 H3 R3 s3 => ⟨ρ2, R3, st1.trans s3, e⟩
      | ct ρ2 => exact fun σ3 H3 R3 s3 => ⟨ρ2, R3, st1.trans s3, e⟩
      | bk ρ2 => cases e; exact fun σ3 H3 R3 s3 => q σ3 H3 R3 (st1.trans s3)
      | rt d => cases e; exact q
def whN (c : WP Bool) (body : WP Out) : Nat → Rho → Nat → (Out → Nat → Prop) → Prop
  | 0, _, _, _ => False
  | n + 1, ρ, b, Q => c.w ρ b fun k b1 => if k = true then body.w ρ b1 fun o b2 => match o with
    | .nx ρ2 => whN c body n ρ2 b2 Q
    | .ct ρ2 => whN c body n ρ2 b2 Q
    | .bk ρ2 => Q (.nx ρ2) b2
    | .rt d => Q (.rt d) b2 else Q (.nx ρ) b1
theorem whN.mono {c : WP Bool} {body : WP Out} : ∀ {n : Nat} {ρ : Rho} {b : Nat} {P Q : Out → Nat → Prop}, (∀ o b, P o b → Q o b) → whN c body n ρ b P → whN c body n ρ b Q
  | 0, _, _, _, _, _, h => h.elim
  | n + 1, ρ, b, P, Q, hm, h => c.m (fun k b1 y => by
      cases k with
      | false => exact hm _ _ y
      | true => exact body.m (fun o b2 z => by
          cases o with
          | nx ρ2 => exact whN.mono hm z
          | ct ρ2 => exact whN.mono hm z
          | bk ρ2 => exact hm _ _ z
          | rt d => exact hm _ _ z) y) h
def swWh (c : WP Bool) (body : WP Out) : WP Out := ⟨fun ρ b Q => ∃ n, whN c body n ρ b Q, fun h ⟨n, z⟩ => ⟨n, whN.mono h z⟩⟩
theorem nS_while {st : Stmt} {c : WP Bool} {body : WP Out} (h : PS X st (tWhile (tnT c) (tSn body))) : PS X st (tSn (swWh c body)) := h.wk fun Dn σ H q => by
  obtain ⟨g, M0, H0, ρ, b, R, n, q⟩ := q
  refine ⟨fun m σ' H' => ∃ ρ' b', Rn g M0 H0 H' σ' ρ' b' ∧ Stp M0 σ ρ H σ' ρ' H' ∧ whN c body m ρ' b' fun o b2 => PostN g M0 H0 σ ρ H Dn o b2, ⟨n, ρ, b, R, .refl, q⟩, ?_⟩
  rintro m σ' H' ⟨ρ', b', R', st, e⟩
  cases m with
  | zero => exact e.elim
  | succ m =>
    refine ⟨g, M0, H0, ρ', b', R', c.m (fun k b1 e H1 k1 i1 => ?_) e⟩
    have R1 := R'.up k1 i1
    have st1 := st.trans (R'.stp k1)
    cases k with
    | false => exact (show PostN g M0 H0 σ ρ H Dn (.nx ρ') b1 from e) σ' H1 R1 st1
    | true =>
      refine ⟨fun σ3 H3 => ∃ ρ3 b3, Rn g M0 H0 H3 σ3 ρ3 b3 ∧ Stp M0 σ ρ H σ3 ρ3 H3 ∧ whN c body m ρ3 b3 fun o b2 => PostN g M0 H0 σ ρ H Dn o b2, fun σ3 H3 h => ⟨m, Nat.lt_succ_self _, h⟩, g, M0, H0, ρ', b1, R1, body.m (fun o b2 e => ?_) e⟩
      cases o with
      | nx ρ2 => exact fun σ3 H3 R3 s3 => ⟨ρ2, b2, R3, st1.trans s3, e⟩
      | ct ρ2 => exact fun σ3 H3 R3 s3 => ⟨ρ2, b2, R3, st1.trans s3, e⟩
      | bk ρ2 => exact fun σ3 H3 R3 s3 => (show PostN g M0 H0 σ ρ H Dn (.nx ρ2) b2 from e) σ3 H3 R3 (st1.trans s3)
      | rt d => exact e
/-! ### xs.remove(k) of a list of one's own -/
def swRem (i : Nat) (f : WP (List D)) : WP Out := ⟨fun ρ b Q => ∃ ns : List Int, ρ[i]? = some (some (.own (ns.map PyData.int))) ∧ f.w ρ b fun es b' => ∃ (k : Int) (j : Nat), es = [.int k] ∧ ns[j]? = some k ∧ (∀ m : Nat, m < j → ns[m]? ≠ some k) ∧ Q (.nx (ρ.set i (some (.own ((ns.eraseIdx j).map PyData.int))))) b', fun h ⟨ds, e, z⟩ => ⟨ds, e, f.m (fun es b' ⟨d, j, e2, l, l2, y⟩ => ⟨d, j, e2, l, l2, h _ _ y⟩) z⟩⟩
theorem intsW_rp {M : Addr → Prop} {H : Hp} : ∀ ns : List Int, RpAll M H (ns.map V.int) (ns.map PyData.int)
  | [] => .nil
  | n :: ns => .cons (.int n) (intsW_rp ns)
theorem rpW_ints {M : Addr → Prop} {H : Hp} : ∀ {vs : List V} {ns : List Int}, RpAll M H vs (ns.map PyData.int) → vs = ns.map V.int
  | [], [], _ => rfl
  | _, [], h => by cases h; rfl
  | _, n :: ns, h => by
    cases h with
    | cons r t =>
      cases r
      rw [rpW_ints t]
      rfl
theorem nS_rem {st : Stmt} {i : Nat} {f : WP (List D)} (h : PS X st (tDrop (tBM K "list" rRemI (tVar i) (tnA f)))) : PS X st (tSn (swRem i f)) := h.wk fun Dn σ H q => by
  obtain ⟨g, M0, H0, ρ, b, R, ns, z, q⟩ := q
  obtain ⟨p, vs, a, c, h0, l, r⟩ := R.own i _ z
  obtain rfl := rpW_ints r
  refine ⟨.ref p, a, .inl ⟨rfl, _, SqL.of c⟩, g, M0, H0, ρ, b, R, f.m (fun es b1 ⟨k, j, e, hj, hm, q⟩ us H1 k1 i1 r1 => ?_) q⟩
  subst e
  match us, r1 with
  | [u], .cons r1 .nil =>
    cases r1
    have c1 := k1 _ _ (fun o => R.dom0 p (R.pl p o) h0) c
    refine ⟨p, ns, k, j, rfl, rfl, c1, hj, hm, ?_⟩
    obtain ⟨R1, S1⟩ := (R.up k1 i1).ownSet z a c1 (vs' := (ns.eraseIdx j).map V.int) (by
      rw [List.length_map] at l ⊢
      exact Nat.le_trans (List.length_eraseIdx_le ..) l) (intsW_rp _)
    exact q _ _ R1 ((R.stp k1).trans S1)
/-! ### xs.index(z) of a list -/
def idxLD : D → D → Option D
  | .list ds, d => if (okD (.list ds) && okD d) = true then (ds.findIdx? fun z => PyData.eqv z d).map fun j => .int (j : Nat) else none
  | _, _ => none
theorem dE_idxL {ob e : Expr} {apos cpos : Pos} {f1 f2 : EF} {μ : Bool} (hu : X.A.units + 65 < cLine) (ho : PE X ob (tD μ f1)) (ha : PE X e (tD μ f2))
    (hbase : attributeBase ob "index" X.env (eval ob X.env) = eval ob X.env := by rfl)
    (hfew : ((backTo cpos (starEach [e] X.env)).all (fun x => !x.1) && (backToKw cpos (keywordEach [] X.env)).all (fun x => x.1.isSome) && decide (([e] : List Expr).length + ([] : List Keyword).length + (if ([] : List Keyword).isEmpty then 0 else 1) < 30)) = true := by rfl)
    (hline : (apos.endLine == cpos.line) = true := by rfl) (hs : starEach [e] X.env = (false, eval e X.env) :: starEach [] X.env := by rfl) (hplain : (backTo cpos (starEach [] X.env)).any (·.1) = false := by rfl) :
    PE X (.Call (.Attribute ob "index" apos) [e] [] cpos) (tD μ (e2 idxLD f1 f2)) := (pe_bm PySem.F.plainAttrs_list PySem.F.slot_list_index PySem.F.type_list_index (mt_indexD hu) ho (dA_cons ha dA_nil hs) hbase hfew hline hs hplain).wk fun σ H Q q => by
  obtain ⟨M0, H0, ρ, d, R, e, q⟩ := q
  obtain ⟨a, ea, e⟩ := some_bind e
  obtain ⟨b, eb, e⟩ := some_bind e
  refine ⟨M0, H0, ρ, a, R, ea, fun x H1 s1 r1 => ?_⟩
  cases r1 with
  | @lst ad xs ds t n l r =>
    have e : (if (okD (.list ds) && okD b) = true then (ds.findIdx? fun z => PyData.eqv z b).map fun j => PyData.int (j : Nat) else none) = some d := e
    by_cases hk : (okD (.list ds) && okD b) = true
    rotate_left
    · rw [if_neg hk] at e
      cases e
    rw [if_pos hk] at e
    have hk := Bool.and_eq_true_iff.mp hk
    obtain ⟨j, hj, ej⟩ := some_map e
    subst ej
    obtain ⟨hl, h1, h2⟩ := List.findIdx?_eq_some_iff_getElem.mp hj
    refine ⟨.inl ⟨rfl, _, SqL.of t⟩, ⟨M0, H0, ρ, [b], R.mono s1, by show (f2 ρ).bind _ = _; rw [eb]; rfl, fun us H2 s2 r2 => ?_⟩⟩
    match us, r2 with
    | [u], .cons r2 .nil =>
      have dl := Rp.dp (K := X.K) ((Rp.lst t n l r).mono (.of s2)) (okD.parts hk.1).1
      have db := Rp.dp (K := X.K) r2 (okD.parts hk.2).1
      exact ⟨ad, u, b, ds, j, ds[j], rfl, rfl, dl, db, (okD.parts hk.1).2, (okD.parts hk.2).2, List.getElem?_eq_getElem hl, h1, fun m z' hm hz => by
        obtain ⟨hm2, rfl⟩ := List.getElem?_eq_some_iff.mp hz
        simpa using h2 m hm, q _ _ (s1.trans s2) (.int _)⟩
  | non => cases e
  | bl b => cases e
  | int i => cases e
  | str x hx => cases e
  | tup t n l r => cases e
  | dic t n h => cases e
/-! ### list(range(n)) as a list of one's own -/
def eLstRg1 (f : EF) : EF := fun ρ => (f ρ).bind fun d => match d with
  | .int n => if -(2 ^ 62) ≤ n ∧ n < 2 ^ 20 then some (.list (rgD 0 n.toNat)) else none
  | _ => none
theorem oE_lstRg1 {e : Expr} {p pos p2 pos2 : Pos} {f : EF} (hc : X.calm = true) (hg : Gl X "list") (hm : X.mg "list" = none) (hg2 : Gl X "range") (hm2 : X.mg "range" = none) (h : PE X e (tD true f))
    (na : starEach [(Expr.Call (.Name "range" p2) [e] [] pos2)] X.env = (false, eval (Expr.Call (.Name "range" p2) [e] [] pos2) X.env) :: starEach [] X.env := by rfl) (nb : starEach [e] X.env = (false, eval e X.env) :: starEach [] X.env := by rfl) :
    PE X (.Call (.Name "list" p) [.Call (.Name "range" p2) [e] [] pos2] [] pos) (tN (eLstRg1 f)) := (pe_listRg hc hg hm (prg_1 hg2 hm2 h nb) na).wk fun σ H Q q => by
  obtain ⟨M0, H0, ρ, ds, R, e, q⟩ := q
  obtain ⟨a, ea, e⟩ := some_bind e
  refine ⟨M0, H0, ρ, a, R, ea, fun x H1 s1 r1 => ?_⟩
  cases a <;> try (cases e; done)
  rename_i n
  obtain ⟨l, e2⟩ := iteS e
  cases e2
  cases r1
  refine ⟨n, rfl, ⟨by decide, by decide, l.1, by omega, by omega⟩, fun q' np => q q' _ _ ?_ (s1.trans (smN np)) upd_same (by rw [rgV_length]; exact szR (by omega)) (rgV_rp n)⟩
  cases z : H q' with
  | none => rfl
  | some o => rw [s1 _ _ z] at np; cases np
end
end Dl
namespace Dl
open PySem PySem.Spec PyProof.Rows L2 Rt
/-! ### rows led along by names -/
def nmF (ns : List Int) (p : Int) : Int := (ns[p.toNat]?).getD 0
structure okLd (L : List D) (ns : List Int) : Prop where
  rws : isRws L
  len : L.length ≤ 1000
  pl : ∀ d ∈ L, (ptsD d).length ≤ 1000
  pt : ∀ d ∈ L, ∀ p ∈ ptsD d, 0 ≤ p ∧ p.toNat < ns.length
def SLd : Sem (List D × List Int) where
  enc := fun (L, ns) => [.list L, .list (ns.map .int)]
  ok := fun (L, ns) => okLd L ns
  out := fun (L, ns) => .list (L.map (renD (nmF ns)))
  fn := fun {x y} _ _ e => by
    obtain ⟨L, ns⟩ := x
    obtain ⟨L', ns'⟩ := y
    injection e with e1 e
    injection e with e2 _
    injection e1 with e1
    injection e2 with e2
    cases e1
    cases map_inj int_i e2
    rfl
def ledR (L acc : List D) (ns : List Int) (x : Option LV) : Rho := [some (.dat (.list L)), some (.dat (.list (ns.map .int))), some (.own acc), x, none]
def ledB : Rho → Option Out := sSeq (sIf (oB (e2 eqD (eCall lenD (aCons (eVar 3) aNil)) (eC (.int 4)))) (sAsg (.nm 3) (e2 addD (eSl (eVar 3) pNone (pSome (eC (.int 3)))) (eTup (aCons (eCall tupD (aCons (eLc true [4] (itSeq (e2 ixD (eVar 3) (eC (.int 3)))) (.nm 4) oYes (e2 ixD (eVar 1) (eVar 4))) aNil)) aNil)))) sNil) (sApp 2 (aCons (eVar 3) aNil))
theorem led_one {L acc : List D} {ns : List Int} {r : Rw} (ha : acc.length ≤ 1000) (pl : r.pts.length ≤ 1000) (hp : ∀ p ∈ r.pts, 0 ≤ p ∧ p.toNat < ns.length) : ∃ x, ledB (ledR L acc ns (some (.dat r.d))) = some (.nx (ledR L (acc ++ [renD (nmF ns) r.d]) ns x)) := by
  have app : ∀ d : D, sApp 2 (aCons (eVar 3) aNil) (ledR L acc ns (some (.dat d))) = some (.nx (ledR L (acc ++ [d]) ns (some (.dat d)))) := fun d => by
    show (if acc.length < sizeLine then _ else none) = _
    rw [if_pos (Nat.lt_of_le_of_lt ha (by decide))]
    rfl
  rw [renD_d]
  cases r with
  | br j r t =>
    refine ⟨some (.dat (Rw.br j r t).d), (ev_if (b := false) (ev_oB (ev_e2 (a := .int 3) (b := .int 4) rfl rfl ((eq_ok (by decide +kernel) (by decide +kernel)).trans (congrArg (fun b => some (PyData.bool b)) (by decide +kernel)))))).trans ?_⟩
    show sSeq sNil _ _ = _
    exact (ev_seq rfl).trans (app _)
  | md j y t ms =>
    let ρ := ledR L acc ns (some (.dat (Rw.md j y t ms).d))
    have el : eLc true [4] (itSeq (e2 ixD (eVar 3) (eC (.int 3)))) (.nm 4) oYes (e2 ixD (eVar 1) (eVar 4)) ρ = some (.list ((ms.map (nmF ns)).map PyData.int)) := by
      refine ev_lcE (items := ms.map PyData.int) rfl ?_
      rw [List.map_map]
      refine ev_lcG (e := PyData.int) (t := PyData.int ∘ nmF ns) ms ?_
      intro p hpm
      obtain ⟨h0, h1⟩ := hp p hpm
      refine ⟨_, rfl, ?_⟩
      obtain ⟨v, hv⟩ : ∃ v, ns[p.toNat]? = some v := ⟨_, List.getElem?_eq_getElem h1⟩
      obtain ⟨k, hk⟩ : ∃ k : Nat, p = k := ⟨p.toNat, by omega⟩
      subst hk
      have hv : ns[k]? = some v := hv
      show _ = some (PyData.int ((ns[k]?).getD 0))
      rw [hv]
      exact ev_e2 (a := .list (ns.map PyData.int)) (b := .int (k : Nat)) rfl rfl (at_map hv)
    have et : eCall tupD (aCons (eLc true [4] (itSeq (e2 ixD (eVar 3) (eC (.int 3)))) (.nm 4) oYes (e2 ixD (eVar 1) (eVar 4))) aNil) ρ = some (.tuple ((ms.map (nmF ns)).map PyData.int)) := by
      unfold eCall
      exact (congrArg (fun o : Option (List D) => o.bind tupD) (ev_cons (ds := []) el rfl)).trans rfl
    have ex : e2 addD (eSl (eVar 3) pNone (pSome (eC (.int 3)))) (eTup (aCons (eCall tupD (aCons (eLc true [4] (itSeq (e2 ixD (eVar 3) (eC (.int 3)))) (.nm 4) oYes (e2 ixD (eVar 1) (eVar 4))) aNil)) aNil)) ρ = some (Rw.md j y t (ms.map (nmF ns))).d := ev_e2 (a := .tuple [S "made", .int j, .int t]) (b := .tuple [.tuple ((ms.map (nmF ns)).map PyData.int)]) rfl (ev_tupX (ds := [.tuple ((ms.map (nmF ns)).map PyData.int)]) (ev_cons et rfl) (by simp)) rfl
    refine ⟨some (.dat (Rw.md j y t (ms.map (nmF ns))).d), (ev_if (b := true) (ev_oB (ev_e2 (a := .int 4) (b := .int 4) rfl rfl ((eq_ok (by decide +kernel) (by decide +kernel)).trans (congrArg (fun b => some (PyData.bool b)) (by decide +kernel)))))).trans ?_⟩
    exact (ev_asg ex rfl).trans (app _)
theorem led_for {L : List D} {ns : List Int} : ∀ (M acc : List D) (x : Option LV), okLd M ns → acc.length + M.length ≤ 1000 → ∃ x', forGo (.nm 3) ledB M (ledR L acc ns x) = some (.nx (ledR L (acc ++ M.map (renD (nmF ns))) ns x'))
  | [], acc, x, _, _ => ⟨x, by rw [List.map_nil, List.append_nil]; rfl⟩
  | d :: M, acc, x, h, hl => by
    rw [List.length_cons] at hl
    obtain ⟨r, rfl⟩ := h.rws.at (i := 0) rfl
    obtain ⟨x1, e1⟩ := led_one (L := L) (acc := acc) (ns := ns) (r := r) (by omega) (by have := h.pl r.d (by simp); rwa [ptsD_d] at this) (by have := h.pt r.d (by simp); rwa [ptsD_d] at this)
    have hM : okLd M ns := ⟨by
      obtain ⟨rs, e⟩ := h.rws
      cases rs with
      | nil => cases e
      | cons r' rs => injection e with _ e; exact ⟨rs, e⟩, by omega, fun d hd => h.pl d (by simp [hd]), fun d hd => h.pt d (by simp [hd])⟩
    obtain ⟨x2, e2⟩ := led_for M (acc ++ [renD (nmF ns) r.d]) x1 hM (by rw [List.length_append, List.length_singleton]; omega)
    refine ⟨x2, (ev_forC (ρ1 := ledR L acc ns (some (.dat r.d))) rfl e1).trans ?_⟩
    rw [e2, List.append_assoc]
    rfl
def SAny : Sem (List Int × List Int) where
  enc := fun (ps, ls) => [.tuple (ps.map .int), .list (ls.map .int)]
  ok := fun _ => True
  out := fun (ps, ls) => .bool (ps.any fun p => decide (p ∈ ls))
  fn := fun {x y} _ _ e => by
    obtain ⟨ps, ls⟩ := x
    obtain ⟨ps', ls'⟩ := y
    injection e with e1 e
    injection e with e2 _
    injection e1 with e1
    injection e2 with e2
    cases map_inj int_i e1
    cases map_inj int_i e2
    rfl
section
variable {P : Program} {w : World} {K : PySem.W.Frag} {mg : Str → Option Value} {base : Heap}
theorem ok_ldn {f : Addr} {fd : FuncData} (F : Fun K "_law_led" "_law_led" s_law_led f fd) (m_len : mg "len" = none) (m_tuple : mg "tuple" = none) : FnOk P w K mg base CX0 1 f fd ["_law_rows", "_law_names"] (spD 2 SLd.f) := by
  refine okFn F sc_law_led rfl fun cdv A outer s H E hr => ⟨_, (dSs_cons (dS_own (ps_set (i := 2) sc_law_led.nd rfl (.inl rfl) (oE_lst (dA_nil (μ := true)))))
  (dSs_cons (dS_for (K := K) (p := (.nm 3)) (ps_for PassesOwn.never rfl (dI_seq (dE_var (μ := true) (pv 0))) (pg_name (i := 3) sc_law_led.nd rfl (.inl rfl))
    (dSs_cons (dS_if (dT_cmp (o_eq hr.units) (dE_callB c_len (by rfl) m_len (by decide +kernel) (dA_cons (dE_var (μ := true) (pv 3)) (dA_nil (μ := true)))) (dE_c (μ := true) pe_int) (nomark _))
    (dSs_one (dS_asg (K := K) (p := .nm 3) (ps_set (i := 3) sc_law_led.nd rfl (.inl rfl) (dE_op o_add (dE_sl (dE_var (μ := true) (pv 3)) dO_none (dO_some (dE_c (μ := true) pe_int))) (dE_tup (dA_cons (dE_callTy c_tuple (by rfl) m_tuple (by decide +kernel) (dA_cons (dE_lc (K := K) (p := (.nm 4)) (pe_lc (own := [("_law_part_here", 4)]) (g := gP K (.nm 4)) rfl sc_law_led.nd (dI_seq (dE_ix (dE_var (μ := true) (pv 3)) (dE_c (μ := true) pe_int))) (blkOk_by (own := [("_law_part_here", 4)]) (N := ["_law_rows", "_law_names", "_law_found", "_law_row", "_law_part_here"]) (sc := defScope s_law_led) (by decide +kernel)) (fun _ _ _ _ _ => (pg_name (i := 4) sc_law_led.nd rfl (.inl rfl))) (fun _ _ _ _ _ => dTs_nil) (fun _ _ _ _ _ => (dE_ix (dE_var (μ := true) (pv 1)) (dE_var (μ := true) (pv 4)))))) (dA_nil (μ := true)))) (dA_nil (μ := true))))))))
    dSs_nil)
  (dSs_one (dS_app (K := K) (ps_expr (pe_bm PySem.F.plainAttrs_list PySem.F.slot_list_append PySem.F.type_list_append mt_append (pv 2) (dA_cons (dE_var (μ := true) (pv 3)) dA_nil))))))))
  (dSs_one (dS_ret (ps_ret (dE_own (pv 2))))))), fun ds d l e => ?_⟩
  obtain ⟨⟨L, ns⟩, h, rfl, rfl⟩ := Sem.get e
  refine ⟨.rt (.list (L.map (renD (nmF ns)))), ?_, rfl⟩
  have hl := h.len
  refine (ev_seq (ρ' := ledR L [] ns none) rfl).trans ?_
  obtain ⟨x, ef⟩ := led_for (L := L) L [] none h (by simpa using hl)
  refine (ev_seq (ev_forS (items := L) rfl ef)).trans ?_
  rfl
theorem ok_any {f : Addr} {fd : FuncData} (F : Fun K "_law_any_of" "_law_any_of" s_law_any_of f fd) : FnOk P w K mg base CX0 1 f fd ["_law_some", "_law_left"] (spD 2 SAny.f) := by
  refine okFn F sc_law_any_of rfl fun cdv A outer s H E hr => ⟨_, (dSs_one (dS_ret (ps_ret (dE_cmp (o_ne hr.units) (dE_lc (K := K) (p := (.nm 2)) (pe_lc (own := [("_law_one_here", 2)]) (g := gP K (.nm 2)) rfl sc_law_any_of.nd (dI_seq (dE_var (μ := true) (pv 0))) (blkOk_by (own := [("_law_one_here", 2)]) (N := ["_law_some", "_law_left", "_law_one_here"]) (sc := defScope s_law_any_of) (by decide +kernel)) (fun _ _ _ _ _ => (pg_name (i := 2) sc_law_any_of.nd rfl (.inl rfl))) (fun _ _ _ _ _ => (pts_one (dT_cmp (o_in (u65 hr)) (dE_var (μ := true) (pv 2)) (dE_var (μ := true) (pv 1)) (by rfl)))) (fun _ _ _ _ _ => (dE_var (μ := true) (pv 2))))) (dE_lst (dA_nil (μ := true))) (nomark _))))), fun ds d l e => ?_⟩
  obtain ⟨⟨ps, ls⟩, _, rfl, rfl⟩ := Sem.get e
  refine ⟨.rt (.bool (ps.any fun p => decide (p ∈ ls))), ?_, rfl⟩
  have el : eLc true [2] (itSeq (eVar 0)) (.nm 2) (oB (e2 inD (eVar 2) (eVar 1))) (eVar 2) [some (.dat (.tuple (ps.map .int))), some (.dat (.list (ls.map .int))), none] = some (.list ((ps.filter fun p => decide (p ∈ ls)).map PyData.int)) := by
    refine ev_lcE (items := ps.map PyData.int) rfl (ev_lcGF (e := PyData.int) (t := PyData.int) (k := fun p => decide (p ∈ ls)) ps ?_)
    intro p _
    exact ⟨_, rfl, ev_oB (ev_e2 (a := .int p) (b := .list (ls.map PyData.int)) rfl rfl (in_ints ls p)), rfl⟩
  refine ev_ret (ev_e2 (a := .list ((ps.filter fun p => decide (p ∈ ls)).map PyData.int)) (b := .list []) el rfl ((ne_ok (ok_ints _) ok_nil).trans ?_))
  congr 2
  cases hf : ps.filter fun p => decide (p ∈ ls) with
  | nil =>
    rw [show PyData.eqv (.list (([] : List Int).map PyData.int)) (.list []) = true from eqv_refl ok_nil]
    symm
    rw [List.any_eq_false.mpr]
    · rfl
    · intro p hp hc
      have : p ∈ ps.filter fun p => decide (p ∈ ls) := List.mem_filter.mpr ⟨hp, hc⟩
      rw [hf] at this
      cases this
  | cons x xs =>
    have hx : x ∈ ps.filter fun p => decide (p ∈ ls) := by rw [hf]; simp
    have := List.mem_filter.mp hx
    rw [List.any_eq_true.mpr ⟨x, this.1, this.2⟩]
    rfl
end
/-! ### an order in which all parts stand ahead -/
structure MixI (ps : List (List Int)) (ls fs : List Int) : Prop where
  lb : ∀ i ∈ ls, 0 ≤ i ∧ i < (ps.length : Int)
  nd : ls.Nodup
  mem : ∀ i : Int, 0 ≤ i → i < (ps.length : Int) → (i ∈ fs ↔ i ∉ ls)
  fb : ∀ i ∈ fs, 0 ≤ i ∧ i < (ps.length : Int)
  fnd : fs.Nodup
  len : ls.length + fs.length = ps.length
  ahd : ∀ (j : Nat) (i : Int), fs[j]? = some i → ∀ r, ps[i.toNat]? = some r → ∀ p ∈ r, ∃ q, q < j ∧ fs[q]? = some p
theorem nodup_inj {ls : List Int} (h : ls.Nodup) {a b : Nat} {x : Int} (ha : ls[a]? = some x) (hb : ls[b]? = some x) : a = b := by
  obtain ⟨h1, e1⟩ := List.getElem?_eq_some_iff.mp ha
  obtain ⟨h2, e2⟩ := List.getElem?_eq_some_iff.mp hb
  rcases Nat.lt_trichotomy a b with z | z | z
  · exact (List.pairwise_iff_getElem.mp h a b h1 h2 z (e1.trans e2.symm)).elim
  · exact z
  · exact (List.pairwise_iff_getElem.mp h b a h2 h1 z (e2.trans e1.symm)).elim
theorem lstRg1_ok {f : EF} {ρ : Rho} {n : Int} (h : f ρ = some (.int n)) (h1 : -(2 ^ 62) ≤ n) (h2 : n < 2 ^ 20) : eLstRg1 f ρ = some (.list (rgD 0 n.toNat)) := by
  unfold eLstRg1
  rw [h]
  exact if_pos ⟨h1, h2⟩
theorem nodup_erase {ls : List Int} (h : ls.Nodup) {j : Nat} {i : Int} (hj : ls[j]? = some i) : (ls.eraseIdx j).Nodup ∧ (∀ x, x ∈ ls.eraseIdx j ↔ x ∈ ls ∧ x ≠ i) ∧ (ls.eraseIdx j).length + 1 = ls.length := by
  obtain ⟨hl, e⟩ := List.getElem?_eq_some_iff.mp hj
  refine ⟨h.sublist (List.eraseIdx_sublist ..), fun x => ?_, by rw [List.length_eraseIdx, if_pos hl]; omega⟩
  rw [List.mem_eraseIdx_iff_getElem?]
  constructor
  · rintro ⟨k, hk, ek⟩
    refine ⟨List.mem_of_getElem? ek, fun z => hk ?_⟩
    rw [z] at ek
    exact nodup_inj h ek hj
  · rintro ⟨hx, hne⟩
    obtain ⟨k, hk⟩ := List.getElem?_of_mem hx
    refine ⟨k, fun z => hne ?_, hk⟩
    rw [z, hj] at hk
    injection hk with hk
    exact hk.symm
theorem MixI.step {ps : List (List Int)} {ls fs : List Int} (h : MixI ps ls fs) {j : Nat} {i : Int} (hj : ls[j]? = some i) (hp : ∀ r, ps[i.toNat]? = some r → ∀ p ∈ r, (0 ≤ p ∧ p < (ps.length : Int)) ∧ p ∉ ls) : MixI ps (ls.eraseIdx j) (fs ++ [i]) := by
  obtain ⟨e1, e2, e3⟩ := nodup_erase h.nd hj
  have hi := List.mem_of_getElem? hj
  have hib := h.lb i hi
  have hif : i ∉ fs := fun z => (h.mem i hib.1 hib.2).mp z hi
  refine ⟨fun x hx => h.lb x ((e2 x).mp hx).1, e1, fun x h0 h1 => ?_, fun x hx => ?_, ?_, ?_, fun k x ek r er p hpr => ?_⟩
  · rw [List.mem_append, List.mem_singleton, e2, h.mem x h0 h1]
    constructor
    · rintro (a | rfl) ⟨b, c⟩
      · exact a b
      · exact c rfl
    · intro a
      by_cases hx : x = i
      · exact .inr hx
      · exact .inl fun b => a ⟨b, hx⟩
  · rcases List.mem_append.mp hx with hx | hx
    · exact h.fb x hx
    · rw [List.mem_singleton.mp hx]; exact hib
  · refine List.nodup_append.mpr ⟨h.fnd, by simp, fun a ha b hb => ?_⟩
    rw [List.mem_singleton.mp hb]
    intro z
    rw [z] at ha
    exact hif ha
  · rw [List.length_append, List.length_singleton]
    have := h.len
    omega
  · by_cases hk : k < fs.length
    · rw [List.getElem?_append_left hk] at ek
      obtain ⟨q, hq, eq⟩ := h.ahd k x ek r er p hpr
      exact ⟨q, hq, by rw [List.getElem?_append_left (by omega)]; exact eq⟩
    · have hk2 : k = fs.length := by
        have := (List.getElem?_eq_some_iff.mp ek).1
        rw [List.length_append, List.length_singleton] at this
        omega
      subst hk2
      rw [List.getElem?_append_right (Nat.le_refl _), Nat.sub_self] at ek
      cases ek
      obtain ⟨hb, hn⟩ := hp r er p hpr
      obtain ⟨q, hq⟩ := List.getElem?_of_mem ((h.mem p hb.1 hb.2).mpr hn)
      have hql := (List.getElem?_eq_some_iff.mp hq).1
      exact ⟨q, hql, by rw [List.getElem?_append_left hql]; exact hq⟩
theorem least_of : ∀ (ls : List Int), ls ≠ [] → ∃ m ∈ ls, ∀ x ∈ ls, m ≤ x
  | [], h => (h rfl).elim
  | [x], _ => ⟨x, by simp, fun y hy => by rw [List.mem_singleton.mp hy]; exact Int.le_refl _⟩
  | x :: y :: ls, _ => by
    obtain ⟨m, hm, h⟩ := least_of (y :: ls) (by simp)
    by_cases e : x ≤ m
    · refine ⟨x, by simp, fun z hz => ?_⟩
      rcases List.mem_cons.mp hz with rfl | hz
      · exact Int.le_refl _
      · have := h z hz; omega
    · refine ⟨m, List.mem_cons.mpr (.inr hm), fun z hz => ?_⟩
      rcases List.mem_cons.mp hz with rfl | hz
      · omega
      · exact h z hz
def gMix : GF := gAny 60 (fun ds => ∃ rs : List Rw, ds = [.list (rs.map Rw.d)] ∧ Ahd (rs.map Rw.pts) ∧ rs.length ≤ 60) (fun ds d => ∃ (rs : List Rw) (fs : List Int), ds = [.list (rs.map Rw.d)] ∧ d = .list (fs.map .int) ∧ MixI (rs.map Rw.pts) [] fs)
def mixR (L : List D) (ls fs : List Int) (x : Option LV) : Rho := [some .pool, some (.dat (.list L)), some (.own (ls.map .int)), some (.own (fs.map .int)), x, none]
def mixC : WP Bool := wTL (oB (e2 neZ (eVar 2) (eLst aNil)))
noncomputable def mixB : WP Out := swSeq (swAsg (.nm 4) (wFr (eLc true [5] (itSeq (eVar 2)) (.nm 5) (oNot (oB (eCall (gN 2 SAny.f) (aCons (e2 ixD (e2 addD (e2 ixD (eVar 1) (eVar 5)) (eTup (aCons (eTup aNil) aNil))) (eC (.int 3))) (aCons (eVar 2) aNil))))) (eVar 5)))) (swSeq (swApp 3 (wCons (wCall 0 1 gOne (wCons (wP (eVar 4)) wNil)) wNil)) (swRem 2 (wCons (wL (e2 ixD (eVar 3) (e1 negD (eC (.int 1))))) wNil)))
theorem first_at {k : Int} : ∀ {ls : List Int}, k ∈ ls → ∃ j, ls[j]? = some k ∧ ∀ m : Nat, m < j → ls[m]? ≠ some k
  | [], h => nomatch h
  | x :: ls, h => by
    by_cases e : x = k
    · exact ⟨0, by rw [e]; rfl, fun m hm => absurd hm (Nat.not_lt_zero _)⟩
    · obtain ⟨j, h1, h2⟩ := first_at ((List.mem_cons.mp h).resolve_left fun z => e z.symm)
      refine ⟨j + 1, h1, fun m hm => ?_⟩
      cases m with
      | zero => intro z; injection z with z; exact e z
      | succ m => exact h2 m (by omega)
section
variable {P : Program} {w : World} {K : PySem.W.Frag} {mg : Str → Option Value} {base : Heap}
theorem ok_mix {f : Addr} {fd : FuncData} (F : Fun K "_law_mixed" "_law_mixed" s_law_mixed f fd) (m_list : mg "list" = none) (m_range : mg "range" = none) (m_len : mg "len" = none)
    (C__law_one : Cl P w K mg base 2 "_law_one" ["_law_drawn", "_law_wares"] (spN 1 gOne)) (C__law_any_of : Cl P w K mg base 1 "_law_any_of" ["_law_some", "_law_left"] (spD 2 SAny.f)) :
    FnOk P w K mg base CX0 3 f fd ["_law_drawn", "_law_rows"] (spN 1 gMix) := by
  refine okFnN F sc_law_mixed rfl fun cdv A outer s H E hr => ⟨_, (nSs_cons (nS_own (ps_set (i := 2) sc_law_mixed.nd rfl (.inr rfl) (nN_pure (oE_lstRg1 rfl (by rfl) m_list (by rfl) m_range (dE_callB c_len (by rfl) m_len (by decide +kernel) (dA_cons (dE_var (μ := true) (pv 1)) (dA_nil (μ := true))))))))
  (nSs_cons (nS_own (ps_set (i := 3) sc_law_mixed.nd rfl (.inl rfl) (nN_lst nA_nil)))
  (nSs_cons (nS_while (ps_while PassesOwn.never (nT_loose (dT_cmp (o_neZ hr.units) (dE_var (μ := true) (pv 2)) (dE_lst (dA_nil (μ := true))) (nomark _)))
    (nSs_cons (nS_lcL (K := K) (p := (.nm 5)) (ps_setLc (i := 4) (own := [("_law_k", 5)]) (g := gP K (.nm 5)) rfl sc_law_mixed.nd rfl rfl (sw_true rfl rfl rfl (by decide +kernel)) (dI_seq (dE_var (μ := true) (pv 2))) (blkOk_by (own := [("_law_k", 5)]) (N := ["_law_drawn", "_law_rows", "_law_left", "_law_found", "_law_free", "_law_k"]) (sc := defScope s_law_mixed) (by decide +kernel)) (fun _ _ _ _ _ => (pg_name (i := 5) sc_law_mixed.nd rfl (.inl rfl))) (fun _ _ _ _ _ => (pts_one (dT_not (dT_val (dE_cl C__law_any_of (hr.mono (by omega)) (by rfl) (dA_cons (dE_ix (dE_op o_add (dE_ix (dE_var (μ := true) (pv 1)) (dE_var (μ := true) (pv 5))) (dE_tup (dA_cons (dE_tup (dA_nil (μ := true))) (dA_nil (μ := true))))) (dE_c (μ := true) pe_int)) (dA_cons (dE_var (μ := true) (pv 2)) (dA_nil (μ := true))))))))) (fun _ _ _ _ _ => (dE_var (μ := true) (pv 5)))))
  (nSs_cons (nS_app (K := K) (ps_expr (pe_bm PySem.F.plainAttrs_list PySem.F.slot_list_append PySem.F.type_list_append mt_append (pv 3) (nA_cons (nE_draw C__law_one (hr.mono (by omega)) (by rfl) (pv 0) (nA_cons (nE_pure (dE_var (μ := true) (pv 4))) nA_nil)) nA_nil))))
  (nSs_one (nS_rem (K := K) (ps_expr (pe_bm PySem.F.plainAttrs_list PySem.F.slot_list_remove PySem.F.type_list_remove mt_remove (pv 2) (nA_cons (nE_loose (dE_ix (dE_var (μ := true) (pv 3)) (dE_neg (dE_c (μ := true) pe_int)))) nA_nil)))))))))
  (nSs_one (nS_retL (ps_ret (dE_var (μ := true) (pv 3)))))))), fun ds b Q l h => ?_⟩
  obtain ⟨⟨rs, rfl, ha, hl⟩, hb, q⟩ := h
  let L : List D := rs.map Rw.d
  let PS := rs.map Rw.pts
  have ll : L.length = rs.length := List.length_map ..
  have pl : PS.length = rs.length := List.length_map ..
  let l0 : List Int := (List.range rs.length).map fun (i : Nat) => (i : Int)
  refine ⟨.list (l0.map PyData.int), ?_, l0.map PyData.int, rfl, by show 2 < 6; decide, ?_⟩
  · refine (lstRg1_ok (n := (L.length : Int)) rfl (by omega) (by omega)).trans ?_
    rw [Int.toNat_natCast, ll]
    congr 2
    unfold rgD
    rw [List.map_map]
    refine List.map_congr_left fun i _ => ?_
    show PyData.int (0 + (i : Int)) = PyData.int (i : Int)
    rw [Int.zero_add]
  refine ⟨.list [], rfl, [], rfl, by show 3 < 6; decide, ?_⟩
  have i0 : MixI PS l0 [] := by
    refine ⟨fun i hi => ?_, ?_, fun i h0 h1 => ?_, fun i hi => (nomatch hi), by simp, by show ((List.range rs.length).map _).length + 0 = _; rw [List.length_map, List.length_range, pl]; rfl, fun j i e => nomatch e⟩
    · obtain ⟨k, hk, rfl⟩ := List.mem_map.mp hi
      have := List.mem_range.mp hk
      omega
    · exact List.Pairwise.map _ (fun a b h => by omega) List.nodup_range
    · refine ⟨fun z => (nomatch z), fun z => (z ?_).elim⟩
      exact List.mem_map.mpr ⟨i.toNat, List.mem_range.mpr (by omega), by omega⟩
  have main : ∀ (m : Nat) (ls fs : List Int) (x : Option LV) (b' : Nat), ls.length = m → MixI PS ls fs → b ≤ b' + fs.length → whN mixC mixB (m + 1) (mixR L ls fs x) b' fun o b1 => ∃ fs' x', o = .nx (mixR L [] fs' x') ∧ MixI PS [] fs' ∧ b ≤ b1 + fs'.length := by
    intro m
    induction m with
    | zero =>
      intro ls fs x b' hm hi hb'
      obtain rfl := List.length_eq_zero_iff.mp hm
      exact ⟨false, ev_oB (ev_e2 (a := .list []) (b := .list []) rfl rfl rfl), fs, x, rfl, hi, hb'⟩
    | succ m ih =>
      intro ls fs x b' hm hi hb'
      have hlen := hi.len
      have ne : ls ≠ [] := fun z => by rw [z] at hm; cases hm
      have em : (ls.map PyData.int).isEmpty = false := by
        cases ls with
        | nil => exact (ne rfl).elim
        | cons _ _ => rfl
      refine ⟨true, ev_oB (ev_e2 (a := .list (ls.map PyData.int)) (b := .list []) rfl rfl (by show some (PyData.bool (!(ls.map PyData.int).isEmpty)) = _; rw [em]; rfl)), ?_⟩
      let kf : Int → Bool := fun k => !((rwAt rs k.toNat).pts.any fun p => decide (p ∈ ls))
      let fr : List Int := ls.filter kf
      have efr : eLc true [5] (itSeq (eVar 2)) (.nm 5) (oNot (oB (eCall (gN 2 SAny.f) (aCons (e2 ixD (e2 addD (e2 ixD (eVar 1) (eVar 5)) (eTup (aCons (eTup aNil) aNil))) (eC (.int 3))) (aCons (eVar 2) aNil))))) (eVar 5) (shutR false (mixR L ls fs x)) = some (.list (fr.map PyData.int)) := by
        refine ev_lcE (items := ls.map PyData.int) rfl (ev_lcGF (e := PyData.int) (t := PyData.int) (k := kf) ls ?_)
        intro k hk
        have kb := hi.lb k hk
        obtain ⟨n, rfl⟩ : ∃ n : Nat, k = n := ⟨k.toNat, by omega⟩
        have er : rs[n]? = some (rwAt rs n) := by unfold rwAt; rw [List.getElem?_eq_getElem (by omega)]; rfl
        let ρ2 : Rho := [some .pool, some (.dat (.list L)), some (.dat (.list (ls.map .int))), some (.dat (.list (fs.map .int))), x.bind fun v => sealL true (some v), some (.dat (.int (n : Nat)))]
        refine ⟨_, rfl, ?_, rfl⟩
        refine ev_not (ev_oB (ev_call (ds := [.tuple ((rwAt rs n).pts.map .int), .list (ls.map .int)]) (ev_cons ?_ (ev_cons rfl rfl)) rfl (Sem.of (S := SAny) (x := ((rwAt rs n).pts, ls)) trivial)))
        have e1 : ∀ ρ : Rho, eVar 1 ρ = some (.list L) → eVar 5 ρ = some (.int (n : Nat)) → e2 ixD (e2 addD (e2 ixD (eVar 1) (eVar 5)) (eTup (aCons (eTup aNil) aNil))) (eC (.int 3)) ρ = some (.tuple ((rwAt rs n).pts.map .int)) := fun ρ h1 h5 => by
          have e2' := ev_e2 (g := ixD) h1 h5 (at_map (f := Rw.d) er)
          cases hr : rwAt rs n with
          | br j r t =>
            rw [hr] at e2'
            exact ev_e2 (a := .tuple [S "brought", .int j, .int t, .tuple []]) (b := .int 3) (ev_e2 (a := (Rw.br j r t).d) (b := .tuple [.tuple []]) e2' rfl rfl) rfl rfl
          | md j y t ns =>
            rw [hr] at e2'
            exact ev_e2 (a := .tuple [S "made", .int j, .int t, .tuple (ns.map .int), .tuple []]) (b := .int 3) (ev_e2 (a := (Rw.md j y t ns).d) (b := .tuple [.tuple []]) e2' rfl rfl) rfl rfl
        exact e1 _ rfl rfl
      refine ⟨fr.map PyData.int, efr, nlAll_int _, mixR L ls fs (some (.dat (.list (fr.map PyData.int)))), rfl, ?_⟩
      have frne : 0 < fr.length := by
        obtain ⟨k, hk, hmin⟩ := least_of ls ne
        have kb := hi.lb k hk
        have er : (rs.map Rw.pts)[k.toNat]? = some (rwAt rs k.toNat).pts := by
          rw [List.getElem?_map]
          unfold rwAt
          rw [List.getElem?_eq_getElem (by omega)]
          rfl
        refine List.length_pos_of_mem (a := k) (List.mem_filter.mpr ⟨hk, ?_⟩)
        show (!((rwAt rs k.toNat).pts.any fun p => decide (p ∈ ls))) = true
        rw [List.any_eq_false.mpr]
        · rfl
        · intro p hp hc
          have h1 := ha _ _ er p hp
          have h2 := hmin p (of_decide_eq_true hc)
          omega
      refine ⟨fs.map PyData.int, rfl, wOne (items := fr.map PyData.int) rfl rfl rfl (by rw [List.length_map]; exact frne) (by
        rw [List.length_map]
        have := List.length_filter_le kf ls
        show (ls.filter kf).length ≤ 1000
        omega) (by omega) fun d b2 dm h2 => ⟨_, rfl, d, rfl, by rw [List.length_map]; exact Nat.lt_of_le_of_lt (show fs.length ≤ 60 by omega) (by decide), ?_⟩⟩
      obtain ⟨i, hif, rfl⟩ := List.mem_map.mp dm
      obtain ⟨hil, hik⟩ := List.mem_filter.mp hif
      obtain ⟨j, hj, hj2⟩ := first_at hil
      refine ⟨ls, rfl, .int i, ?_, rfl, _, rfl, i, j, rfl, hj, hj2, ?_⟩
      · refine ev_e2 (a := .list (fs.map PyData.int ++ [.int i])) (b := .int (-1)) rfl rfl (atI_last (by rw [List.length_append]; simp) ?_)
        rw [List.length_append, List.length_singleton, Nat.add_sub_cancel, List.getElem?_append_right (Nat.le_refl _), Nat.sub_self]
        rfl
      · have st := hi.step hj fun r er p hp => by
          have ib := hi.lb i hil
          have er2 : PS[i.toNat]? = some (rwAt rs i.toNat).pts := by
            show (rs.map Rw.pts)[i.toNat]? = _
            rw [List.getElem?_map]
            unfold rwAt
            rw [List.getElem?_eq_getElem (by omega)]
            rfl
          rw [er2] at er
          cases er
          have h1 := ha _ _ er2 p hp
          refine ⟨⟨h1.1, by omega⟩, fun hc => ?_⟩
          have hik : (!((rwAt rs i.toNat).pts.any fun p => decide (p ∈ ls))) = true := hik
          rw [List.any_eq_true.mpr ⟨p, hp, decide_eq_true hc⟩] at hik
          cases hik
        have := ih (ls.eraseIdx j) (fs ++ [i]) (some (.dat (.list (fr.map PyData.int)))) b2 (by have := (nodup_erase hi.nd hj).2.2; omega) st (by rw [List.length_append, List.length_singleton]; omega)
        have er : mixR L (ls.eraseIdx j) (fs ++ [i]) (some (.dat (.list (fr.map PyData.int)))) = [some .pool, some (.dat (.list L)), some (.own ((ls.eraseIdx j).map PyData.int)), some (.own (fs.map PyData.int ++ [.int i])), some (.dat (.list (fr.map PyData.int))), none] := by
          unfold mixR
          rw [List.map_append]
          rfl
        rw [er] at this
        exact this
  have := main l0.length l0 [] none b rfl i0 (by simp)
  refine ⟨l0.length + 1, whN.mono (fun o b1 h => ?_) this⟩
  obtain ⟨fs, x', rfl, hi, hb1⟩ := h
  have hlen := hi.len
  rw [List.length_nil] at hlen
  exact ⟨_, rfl, q _ b1 ⟨rs, fs, rfl, rfl, hi⟩ (by omega)⟩
end
end Dl
namespace Dl
open PySem PySem.Spec PyProof.Rows L2 Rt
theorem GdI.take {X : Wd} {rs : List Rw} {ts : List Tg} (h : GdI X rs ts) (k : Nat) : GdI X (rs.take k) (ts.take k) := by
  have hl := h.len
  refine ⟨by rw [List.length_take, List.length_take, hl], fun i r e => ?_⟩
  have hi := (List.getElem?_eq_some_iff.mp e).1
  rw [List.length_take] at hi
  rw [List.getElem?_take_of_lt (by omega)] at e
  obtain ⟨a, b⟩ := h.row i r e
  rw [List.take_take, Nat.min_eq_left (by omega), List.getElem?_take_of_lt (by omega)]
  exact ⟨a, b⟩
theorem sl_toT {xs : List D} {j : Nat} (h : j ≤ xs.length) : slD (.tuple xs) none (some (j : Int)) = some (.tuple (xs.take j)) := by
  show some (PyData.tuple (cutD xs none (some (j : Int)))) = _
  rw [cut_to h]
theorem sl_toL {xs : List D} {j : Nat} (h : j ≤ xs.length) : slD (.list xs) none (some (j : Int)) = some (.list (xs.take j)) := by
  show some (PyData.list (cutD xs none (some (j : Int)))) = _
  rw [cut_to h]
end Dl
namespace Dl
open PySem PySem.Spec PyProof.Rows L2 Rt
def lawR (a b c d e f g h i j k l m n o p q : Option LV) : Rho := [none, some .pool, a, b, c, d, e, f, g, h, i, j, k, l, m, n, o, p, q, none]
theorem ren_self (r : Rw) : r.ren id = r := by
  cases r with
  | br j r t => rfl
  | md j y t ns => show Rw.md j y t (ns.map id) = _; rw [List.map_id]
theorem ren_map (f : Int → Int) (M : List Rw) : (M.map Rw.d).map (renD f) = (M.map (Rw.ren f)).map Rw.d := by
  rw [List.map_map, List.map_map]
  exact List.map_congr_left fun r _ => renD_d _ _
theorem ren_congr {f g : Int → Int} {r : Rw} (h : ∀ p ∈ r.pts, f p = g p) : r.ren f = r.ren g := by
  cases r with
  | br j r t => rfl
  | md j y t ns =>
    have h : ∀ p ∈ ns, f p = g p := h
    show Rw.md j y t (ns.map f) = Rw.md j y t (ns.map g)
    rw [List.map_congr_left h]
theorem ren_pl {r : Rw} {f : Int → Int} : (r.ren f).pts.length = r.pts.length := by
  cases r with
  | br j r t => rfl
  | md j y t ns => exact List.length_map ..
/-- a row once more behind the others -/
theorem GdI.again {X : Wd} {rs : List Rw} {ts : List Tg} (h : GdI X rs ts) {i : Nat} {r : Rw} {g : Tg} (hr : rs[i]? = some r) (hg : ts[i]? = some g) : GdI X (rs ++ [r]) (ts ++ [g]) := by
  have hl := h.len
  have hil := (List.getElem?_eq_some_iff.mp hr).1
  obtain ⟨a, b⟩ := h.row i r hr
  have := a.ren (us := ts) (f := id) fun p hp => by
    have hb := a.pts p hp
    rw [List.length_take] at hb
    refine ⟨hb.1, by show p ≤ _; omega, ?_⟩
    show ts[p.toNat]? = _
    rw [List.getElem?_take_of_lt (by omega)]
  rw [ren_self] at this
  have eg : g = tgOf ts r := by
    rw [this.2]
    rw [hg] at b
    injection b
  rw [eg]
  exact (Gd.snoc (GdI.toGd rs.length rfl h) this.1).toI
/-! the walk up to a fault -/
theorem walk_at {X : Wd} : ∀ {ds : List D} {k0 k : Nat} {ts ts' : List Tg} {w : Str}, walkP X k0 ts ds = (some (k, w), ts') → ∃ j d, k = k0 + j ∧ ds[j]? = some d ∧ wrd X ts' d = some w ∧ ∀ i, i < j → ∃ (n : Nat) (r : Rw), ds[i]? = some r.d ∧ r.ok X n
  | [], k0, k, ts, ts', w, h => nomatch (show ((none : Option (Nat × Str)), ts) = (some (k, w), ts') from h)
  | d :: ds, k0, k, ts, ts', w, h => by
    unfold walkP at h
    cases hw : wrd X ts d with
    | some z =>
      rw [hw] at h
      have h : ((some (k0, z) : Option (Nat × Str)), ts) = (some (k, w), ts') := h
      injection h with h1 h2
      injection h1 with h1
      injection h1 with h1 h3
      subst h1; subst h2; subst h3
      exact ⟨0, d, rfl, rfl, hw, fun i hi => absurd hi (Nat.not_lt_zero _)⟩
    | none =>
      rw [hw] at h
      obtain ⟨r, hr⟩ := wrd_rw hw
      have h : (match rwOf X ts.length d with | some r => walkP X (k0 + 1) (ts ++ [tgOf ts r]) ds | none => ((none : Option (Nat × Str)), ts)) = (some (k, w), ts') := h
      rw [hr] at h
      obtain ⟨j, d', e1, e2, e3, e4⟩ := walk_at h
      obtain ⟨rfl, ro⟩ := rwOf_ok hr
      refine ⟨j + 1, d', by omega, e2, e3, fun i hi => ?_⟩
      cases i with
      | zero => exact ⟨_, r, rfl, ro⟩
      | succ i => exact e4 i (by omega)
theorem walk_app {X : Wd} {bs : List D} : ∀ {as : List D} {k : Nat} {ts ts' : List Tg}, walkP X k ts as = (none, ts') → walkP X k ts (as ++ bs) = walkP X (k + as.length) ts' bs
  | [], k, ts, ts', h => by
    have h : ((none : Option (Nat × Str)), ts) = (none, ts') := h
    injection h with _ h
    subst h
    rfl
  | d :: as, k, ts, ts', h => by
    show walkP X k ts (d :: (as ++ bs)) = _
    unfold walkP at h
    conv => lhs; unfold walkP
    cases hw : wrd X ts d with
    | some z =>
      rw [hw] at h
      injection (show ((some (k, z) : Option (Nat × Str)), ts) = (none, ts') from h) with h _
      cases h
    | none =>
      rw [hw] at h
      obtain ⟨r, hr⟩ := wrd_rw hw
      have h : (match rwOf X ts.length d with | some r => walkP X (k + 1) (ts ++ [tgOf ts r]) as | none => ((none : Option (Nat × Str)), ts)) = (none, ts') := h
      rw [hr] at h
      show (match rwOf X ts.length d with | some r => walkP X (k + 1) (ts ++ [tgOf ts r]) (as ++ bs) | none => ((none : Option (Nat × Str)), ts)) = _
      rw [hr]
      show walkP X (k + 1) (ts ++ [tgOf ts r]) (as ++ bs) = _
      rw [walk_app h, List.length_cons, show k + 1 + as.length = k + (as.length + 1) by omega]
theorem ok_pl {X : Wd} (hX : X.ok) {n : Nat} {r : Rw} (h : r.ok X n) : r.pts.length ≤ 1000 := by
  cases r with
  | br j r t => exact Nat.zero_le _
  | md j y t ns =>
    show ns.length ≤ 1000
    have := (hX.ws y (List.mem_of_getElem? h.1)).p3
    have := h.2.1
    omega
/-- a brought row at a wrong moment is wrong wherever it stands -/
theorem wrd_mom {X : Wd} {ts us : List Tg} {d : D} (h : wrd X ts d = some (Str.ofString "moment")) : (∃ es, d = .tuple es ∧ (es.length = 3 ∨ es.length = 4)) ∧ ∀ es, d = .tuple es → es.length = 3 → wrd X us d = some (Str.ofString "moment") := by
  unfold wrd at h
  cases hb : brR X d with
  | some q =>
    obtain ⟨j, r, t⟩ := q
    rw [hb] at h
    refine ⟨⟨_, (brR_get hb).1, .inl rfl⟩, fun _ _ _ => ?_⟩
    unfold wrd
    rw [hb]
    exact h
  | none =>
    rw [hb] at h
    have h : (match mdR X ts.length d with
      | none => some (Str.ofString "row")
      | some (_, y, t, ns) => if y.hs.any (· == t % X.n) = true then (if (y.ps.zip ns).all (fun z => fitB z.1 (tgAt ts z.2) t) = true then none else some (Str.ofString "part")) else some (Str.ofString "moment")) = some (Str.ofString "moment") := h
    cases hm : mdR X ts.length d with
    | none =>
      rw [hm] at h
      injection h with h
      exact absurd h (by decide +kernel)
    | some q =>
      obtain ⟨j, y, t, ns⟩ := q
      have e := (mdR_get hm).1
      refine ⟨⟨_, e, .inr rfl⟩, fun es e2 hl => ?_⟩
      rw [e] at e2
      injection e2 with e2
      rw [← e2] at hl
      cases hl
theorem fidx {k : Int} : ∀ {fs : List Int}, k ∈ fs → (fs.map PyData.int).findIdx? (fun z => PyData.eqv z (.int k)) = some (fs.idxOf k)
  | [], h => nomatch h
  | x :: fs, h => by
    rw [List.map_cons, List.findIdx?_cons, List.idxOf_cons]
    by_cases e : x = k
    · rw [show PyData.eqv (.int x) (.int k) = true by rw [e]; exact beq_self_eq_true k, show (x == k) = true by rw [e]; exact beq_self_eq_true k]
      rfl
    · rw [show PyData.eqv (.int x) (.int k) = false from beq_false_of_ne e, show (x == k) = false from beq_false_of_ne e, if_neg (by decide), fidx ((List.mem_cons.mp h).resolve_left fun z => e z.symm)]
      rfl
theorem idx_getI {fs : List Int} {x : Int} (h : x ∈ fs) : fs[fs.idxOf x]? = some x := by
  have := List.idxOf_lt_length_iff.mpr h
  rw [List.getElem?_eq_getElem this, List.getElem_idxOf]
theorem dpA3_4 {d : D} (h : dpA 3 d) : dpA 4 d := dpA_le (by decide) h
section
variable {P : Program} {w : World} {K : PySem.W.Frag} {mg : Str → Option Value} {base : Heap}
theorem ok_law {f : Addr} {fd : FuncData} (F : Fun K "law" "law" s_law f fd) (m_range : mg "range" = none) (m_tuple : mg "tuple" = none) (m_len : mg "len" = none) (m_isinstance : mg "isinstance" = none)
    (C__law_draws : Cl P w K mg base 1 "_law_draws" ["_law_script"] (spDraws K)) (C__law_next : Cl P w K mg base 1 "_law_next" ["_law_drawn", "_law_below"] (spN 1 gNext)) (C__law_world : Cl P w K mg base 5 "_law_world" ["_law_drawn", "_law_wide", "_law_old"] (spN 2 gWorld)) (C__law_paper : Cl P w K mg base 4 "_law_paper" ["_law_drawn", "_law_world_here", "_law_many"] (spN 2 gPaper)) (C__law_alike : Cl P w K mg base 4 "_law_alike" ["_law_one_here", "_law_other"] (spD 2 (sAq 4))) (C_paperfault : Cl P w K mg base 6 "paperfault" ["world", "thing"] (spD 2 SFlt.f)) (C_things : Cl P w K mg base 6 "things" ["world", "paper"] (spD 2 STh0.f)) (C_trimmed : Cl P w K mg base 3 "trimmed" ["paper"] (spD 1 STrm.f)) (C__law_led : Cl P w K mg base 1 "_law_led" ["_law_rows", "_law_names"] (spD 2 SLd.f)) (C__law_mixed : Cl P w K mg base 3 "_law_mixed" ["_law_drawn", "_law_rows"] (spN 1 gMix)) (C__law_bent_paper : Cl P w K mg base 16 "_law_bent_paper" ["_law_drawn", "_law_rows"] (spN 1 gBen)) (C__law_looked : Cl P w K mg base 4 "_law_looked" ["_law_world_here", "_law_thing"] (spD 2 SLok.f)) : FnG P w K mg base 17 f fd ["_law_script"] (spLaw K) := by
  refine okG F sc_law (fun vs H Q E h => ?_) (fun cdv A outer s H vs Q E hr free h => ?_)
  · obtain ⟨a, ns, rfl, _⟩ := h
    rfl
  · obtain ⟨a, ns, rfl, hS, hn, q⟩ := h
    refine ⟨_, pss_cons (ps_set (i := 1) sc_law.nd rfl (.inl rfl) (pe_cl C__law_draws (hr.mono (by omega)) (by rfl) (pa_cons (pv 0) pa_nil)))
      (nSs_cons (nS_asg (K := K) (p := .nm 2) (ps_set (i := 2) sc_law.nd rfl (.inl rfl) (nE_draw C__law_world (hr.mono (by omega)) (by rfl) (pv 1) (nA_cons (nE_pure (dE_c (μ := true) pe_int)) (nA_cons (nE_pure (dE_c (μ := true) pe_int)) nA_nil)))))
  (nSs_cons (nS_asgL (K := K) (ps := (.cons (.nm 3) (.cons (.nm 4) .nil))) (ps_asg (nE_draw C__law_paper (hr.mono (by omega)) (by rfl) (pv 1) (nA_cons (nE_pure (dE_var (μ := true) (pv 2))) (nA_cons (nE_pure (dE_c (μ := true) pe_int)) nA_nil))) (pg_lst (by rfl) (pgs_cons (pg_name (i := 3) sc_law.nd rfl (.inr rfl)) (pgs_cons (pg_name (i := 4) sc_law.nd rfl (.inr rfl)) pgs_nil)))))
  (nSs_cons (nS_asgL (K := K) (ps := (.cons (.nm 5) (.cons (.nm 6) .nil))) (ps_asg (nE_draw C__law_paper (hr.mono (by omega)) (by rfl) (pv 1) (nA_cons (nE_pure (dE_var (μ := true) (pv 2))) (nA_cons (nE_pure (dE_c (μ := true) pe_int)) nA_nil))) (pg_lst (by rfl) (pgs_cons (pg_name (i := 5) sc_law.nd rfl (.inr rfl)) (pgs_cons (pg_name (i := 6) sc_law.nd rfl (.inl rfl)) pgs_nil)))))
  (nSs_cons (nS_if (nT_pure (PW.pt (dW_or (dT_cmp (o_eqZ hr.units) (dE_var (μ := true) (pv 3)) (dE_lst (dA_nil (μ := true))) (nomark _)) (dW_or1 (dT_cmp (o_eqZ hr.units) (dE_var (μ := true) (pv 5)) (dE_lst (dA_nil (μ := true))) (nomark _))))))
    (nSs_one (nS_retL (ps_ret (dE_cl C__law_alike (hr.mono (by omega)) (by rfl) (dA_cons (dE_cl C_paperfault (hr.mono (by omega)) (by rfl) (dA_cons (dE_var (μ := true) (pv 2)) (dA_cons (dE_tup (dA_nil (μ := true))) (dA_nil (μ := true))))) (dA_cons (dE_tup (dA_cons (dE_neg (dE_c (μ := true) pe_int)) (dA_cons (dE_c (μ := true) pe_str) (dA_nil (μ := true))))) (dA_nil (μ := true))))))))
    nSs_nil)
  (nSs_cons (nS_asg (K := K) (p := .nm 7) (ps_set (i := 7) sc_law.nd rfl (.inl rfl) (nE_pure (dE_cl C__law_led (hr.mono (by omega)) (by rfl) (dA_cons (dE_var (μ := true) (pv 5)) (dA_cons (dE_lc (K := K) (p := (.nm 19)) (pe_lc (own := [("_law_k", 19)]) (g := gP K (.nm 19)) rfl sc_law.nd (dI_ran1 (by rfl) m_range (dA_cons (dE_callB c_len (by rfl) m_len (by decide +kernel) (dA_cons (dE_var (μ := true) (pv 5)) (dA_nil (μ := true)))) (dA_nil (μ := true)))) (blkOk_by (own := [("_law_k", 19)]) (N := ["_law_script", "_law_drawn", "_law_world_here", "_law_rows", "_law_found", "_law_others", "_law_more", "_law_behind", "_law_order", "_law_names", "_law_turned", "_law_spot", "_law_again", "_law_bent", "_law_at", "_law_word", "_law_fine", "_law_same", "_law_fault", "_law_k"]) (sc := defScope s_law) (by decide +kernel)) (fun _ _ _ _ _ => (pg_name (i := 19) sc_law.nd rfl (.inl rfl))) (fun _ _ _ _ _ => dTs_nil) (fun _ _ _ _ _ => (dE_op o_add (dE_callB c_len (by rfl) m_len (by decide +kernel) (dA_cons (dE_var (μ := true) (pv 3)) (dA_nil (μ := true)))) (dE_var (μ := true) (pv 19)))))) (dA_nil (μ := true))))))))
  (nSs_cons (nS_if (nT_pure (dT_not (dT_val (dE_cl C__law_alike (hr.mono (by omega)) (by rfl) (dA_cons (dE_cl C_things (hr.mono (by omega)) (by rfl) (dA_cons (dE_var (μ := true) (pv 2)) (dA_cons (dE_callTy c_tuple (by rfl) m_tuple (by decide +kernel) (dA_cons (dE_op o_add (dE_var (μ := true) (pv 3)) (dE_var (μ := true) (pv 7))) (dA_nil (μ := true)))) (dA_nil (μ := true))))) (dA_cons (dE_callTy c_tuple (by rfl) m_tuple (by decide +kernel) (dA_cons (dE_op o_add (dE_var (μ := true) (pv 4)) (dE_var (μ := true) (pv 6))) (dA_nil (μ := true)))) (dA_nil (μ := true))))))))
    (nSs_one (nS_retL (ps_ret (dE_c (μ := true) pe_bl))))
    nSs_nil)
  (nSs_cons (nS_asg (K := K) (p := .nm 8) (ps_set (i := 8) sc_law.nd rfl (.inr rfl) (nE_draw C__law_mixed (hr.mono (by omega)) (by rfl) (pv 1) (nA_cons (nE_pure (dE_var (μ := true) (pv 3))) nA_nil))))
  (nSs_cons (nS_lcL (K := K) (p := (.nm 19)) (ps_setLc (i := 9) (own := [("_law_k", 19)]) (g := gP K (.nm 19)) rfl sc_law.nd rfl rfl (sw_true rfl rfl rfl (by decide +kernel)) (dI_ran1 (by rfl) m_range (dA_cons (dE_callB c_len (by rfl) m_len (by decide +kernel) (dA_cons (dE_var (μ := true) (pv 3)) (dA_nil (μ := true)))) (dA_nil (μ := true)))) (blkOk_by (own := [("_law_k", 19)]) (N := ["_law_script", "_law_drawn", "_law_world_here", "_law_rows", "_law_found", "_law_others", "_law_more", "_law_behind", "_law_order", "_law_names", "_law_turned", "_law_spot", "_law_again", "_law_bent", "_law_at", "_law_word", "_law_fine", "_law_same", "_law_fault", "_law_k"]) (sc := defScope s_law) (by decide +kernel)) (fun _ _ _ _ _ => (pg_name (i := 19) sc_law.nd rfl (.inl rfl))) (fun _ _ _ _ _ => dTs_nil) (fun _ _ _ _ _ => (dE_idxL (u65 hr) (dE_var (μ := true) (pv 8)) (dE_var (μ := true) (pv 19))))))
  (nSs_cons (nS_asg (K := K) (p := .nm 10) (ps_set (i := 10) sc_law.nd rfl (.inl rfl) (nE_pure (dE_callTy c_tuple (by rfl) m_tuple (by decide +kernel) (dA_cons (dE_cl C__law_led (hr.mono (by omega)) (by rfl) (dA_cons (dE_lc (K := K) (p := (.nm 19)) (pe_lc (own := [("_law_k", 19)]) (g := gP K (.nm 19)) rfl sc_law.nd (dI_seq (dE_var (μ := true) (pv 8))) (blkOk_by (own := [("_law_k", 19)]) (N := ["_law_script", "_law_drawn", "_law_world_here", "_law_rows", "_law_found", "_law_others", "_law_more", "_law_behind", "_law_order", "_law_names", "_law_turned", "_law_spot", "_law_again", "_law_bent", "_law_at", "_law_word", "_law_fine", "_law_same", "_law_fault", "_law_k"]) (sc := defScope s_law) (by decide +kernel)) (fun _ _ _ _ _ => (pg_name (i := 19) sc_law.nd rfl (.inl rfl))) (fun _ _ _ _ _ => dTs_nil) (fun _ _ _ _ _ => (dE_ix (dE_var (μ := true) (pv 3)) (dE_var (μ := true) (pv 19)))))) (dA_cons (dE_var (μ := true) (pv 9)) (dA_nil (μ := true))))) (dA_nil (μ := true)))))))
  (nSs_cons (nS_if (nT_pure (dT_not (dT_val (dE_cl C__law_alike (hr.mono (by omega)) (by rfl) (dA_cons (dE_cl C_things (hr.mono (by omega)) (by rfl) (dA_cons (dE_var (μ := true) (pv 2)) (dA_cons (dE_var (μ := true) (pv 10)) (dA_nil (μ := true))))) (dA_cons (dE_callTy c_tuple (by rfl) m_tuple (by decide +kernel) (dA_cons (dE_lc (K := K) (p := (.nm 19)) (pe_lc (own := [("_law_k", 19)]) (g := gP K (.nm 19)) rfl sc_law.nd (dI_seq (dE_var (μ := true) (pv 8))) (blkOk_by (own := [("_law_k", 19)]) (N := ["_law_script", "_law_drawn", "_law_world_here", "_law_rows", "_law_found", "_law_others", "_law_more", "_law_behind", "_law_order", "_law_names", "_law_turned", "_law_spot", "_law_again", "_law_bent", "_law_at", "_law_word", "_law_fine", "_law_same", "_law_fault", "_law_k"]) (sc := defScope s_law) (by decide +kernel)) (fun _ _ _ _ _ => (pg_name (i := 19) sc_law.nd rfl (.inl rfl))) (fun _ _ _ _ _ => dTs_nil) (fun _ _ _ _ _ => (dE_ix (dE_var (μ := true) (pv 4)) (dE_var (μ := true) (pv 19)))))) (dA_nil (μ := true)))) (dA_nil (μ := true))))))))
    (nSs_one (nS_retL (ps_ret (dE_c (μ := true) pe_bl))))
    nSs_nil)
  (nSs_cons (nS_asg (K := K) (p := .nm 11) (ps_set (i := 11) sc_law.nd rfl (.inl rfl) (nE_draw C__law_next (hr.mono (by omega)) (by rfl) (pv 1) (nA_cons (nE_pure (dE_callB c_len (by rfl) m_len (by decide +kernel) (dA_cons (dE_var (μ := true) (pv 3)) (dA_nil (μ := true))))) nA_nil))))
  (nSs_cons (nS_asg (K := K) (p := .nm 12) (ps_set (i := 12) sc_law.nd rfl (.inl rfl) (nE_pure (dE_cl C_things (hr.mono (by omega)) (by rfl) (dA_cons (dE_var (μ := true) (pv 2)) (dA_cons (dE_callTy c_tuple (by rfl) m_tuple (by decide +kernel) (dA_cons (dE_op o_add (dE_var (μ := true) (pv 3)) (dE_lst (dA_cons (dE_ix (dE_var (μ := true) (pv 3)) (dE_var (μ := true) (pv 11))) (dA_nil (μ := true))))) (dA_nil (μ := true)))) (dA_nil (μ := true))))))))
  (nSs_cons (nS_if (nT_pure (dT_not (dT_val (dE_cl C__law_alike (hr.mono (by omega)) (by rfl) (dA_cons (dE_var (μ := true) (pv 12)) (dA_cons (dE_callTy c_tuple (by rfl) m_tuple (by decide +kernel) (dA_cons (dE_op o_add (dE_var (μ := true) (pv 4)) (dE_lst (dA_cons (dE_ix (dE_var (μ := true) (pv 4)) (dE_var (μ := true) (pv 11))) (dA_nil (μ := true))))) (dA_nil (μ := true)))) (dA_nil (μ := true))))))))
    (nSs_one (nS_retL (ps_ret (dE_c (μ := true) pe_bl))))
    nSs_nil)
  (nSs_cons (nS_asg (K := K) (p := .nm 13) (ps_set (i := 13) sc_law.nd rfl (.inr rfl) (nE_draw C__law_bent_paper (hr.mono (by omega)) (by rfl) (pv 1) (nA_cons (nE_pure (dE_callTy c_tuple (by rfl) m_tuple (by decide +kernel) (dA_cons (dE_var (μ := true) (pv 5)) (dA_nil (μ := true))))) nA_nil))))
  (nSs_cons (nS_if (nT_pure (PW.pt (dW_and (dT_val (dE_isi (dE_var (μ := true) (pv 13)) (pe_bltn (v := .ty "tuple") (by rfl) m_tuple (by decide +kernel) rfl) (by rfl) m_isinstance (by decide +kernel))) (dW_and (dT_cmp (o_neZ hr.units) (dE_var (μ := true) (pv 13)) (dE_tup (dA_nil (μ := true))) (nomark _)) (dW_and1 (dT_cmp o_isnot (dE_ix (dE_cl C__law_looked (hr.mono (by omega)) (by rfl) (dA_cons (dE_var (μ := true) (pv 2)) (dA_cons (dE_var (μ := true) (pv 13)) (dA_nil (μ := true))))) (dE_c (μ := true) pe_int)) (dE_c (μ := true) pe_non) (nomark _)))))))
    (nSs_cons (nS_asg (K := K) (p := (.tp (.cons (.nm 14) (.cons (.nm 15) .nil)))) (ps_asg (nE_pure (dE_ix (dE_cl C__law_looked (hr.mono (by omega)) (by rfl) (dA_cons (dE_var (μ := true) (pv 2)) (dA_cons (dE_var (μ := true) (pv 13)) (dA_nil (μ := true))))) (dE_c (μ := true) pe_int))) (pg_tup (by rfl) (pgs_cons (pg_name (i := 14) sc_law.nd rfl (.inl rfl)) (pgs_cons (pg_name (i := 15) sc_law.nd rfl (.inl rfl)) pgs_nil)))))
  (nSs_cons (nS_asg (K := K) (p := .nm 16) (ps_set (i := 16) sc_law.nd rfl (.inl rfl) (nE_pure (dE_cl C__law_led (hr.mono (by omega)) (by rfl) (dA_cons (dE_sl (dE_var (μ := true) (pv 5)) dO_none (dO_some (dE_var (μ := true) (pv 14)))) (dA_cons (dE_lc (K := K) (p := (.nm 19)) (pe_lc (own := [("_law_k", 19)]) (g := gP K (.nm 19)) rfl sc_law.nd (dI_ran1 (by rfl) m_range (dA_cons (dE_callB c_len (by rfl) m_len (by decide +kernel) (dA_cons (dE_var (μ := true) (pv 5)) (dA_nil (μ := true)))) (dA_nil (μ := true)))) (blkOk_by (own := [("_law_k", 19)]) (N := ["_law_script", "_law_drawn", "_law_world_here", "_law_rows", "_law_found", "_law_others", "_law_more", "_law_behind", "_law_order", "_law_names", "_law_turned", "_law_spot", "_law_again", "_law_bent", "_law_at", "_law_word", "_law_fine", "_law_same", "_law_fault", "_law_k"]) (sc := defScope s_law) (by decide +kernel)) (fun _ _ _ _ _ => (pg_name (i := 19) sc_law.nd rfl (.inl rfl))) (fun _ _ _ _ _ => dTs_nil) (fun _ _ _ _ _ => (dE_op o_add (dE_callB c_len (by rfl) m_len (by decide +kernel) (dA_cons (dE_var (μ := true) (pv 3)) (dA_nil (μ := true)))) (dE_var (μ := true) (pv 19)))))) (dA_nil (μ := true))))))))
  (nSs_cons (nS_asg (K := K) (p := .nm 17) (ps_set (i := 17) sc_law.nd rfl (.inl rfl) (nE_pure (dE_cmp (o_eqZ hr.units) (dE_lc (K := K) (p := (.nm 19)) (pe_lc (own := [("_law_k", 19)]) (g := gP K (.nm 19)) rfl sc_law.nd (dI_ran1 (by rfl) m_range (dA_cons (dE_var (μ := true) (pv 14)) (dA_nil (μ := true)))) (blkOk_by (own := [("_law_k", 19)]) (N := ["_law_script", "_law_drawn", "_law_world_here", "_law_rows", "_law_found", "_law_others", "_law_more", "_law_behind", "_law_order", "_law_names", "_law_turned", "_law_spot", "_law_again", "_law_bent", "_law_at", "_law_word", "_law_fine", "_law_same", "_law_fault", "_law_k"]) (sc := defScope s_law) (by decide +kernel)) (fun _ _ _ _ _ => (pg_name (i := 19) sc_law.nd rfl (.inl rfl))) (fun _ _ _ _ _ => (pts_one (dT_not (dT_val (dE_cl C__law_alike (hr.mono (by omega)) (by rfl) (dA_cons (dE_ix (dE_var (μ := true) (pv 13)) (dE_var (μ := true) (pv 19))) (dA_cons (dE_ix (dE_var (μ := true) (pv 5)) (dE_var (μ := true) (pv 19))) (dA_nil (μ := true))))))))) (fun _ _ _ _ _ => (dE_var (μ := true) (pv 19))))) (dE_lst (dA_nil (μ := true))) (nomark _)))))
  (nSs_one (nS_if (nT_pure (PW.pt (dW_and (dT_truth (dE_var (μ := true) (pv 17))) (dW_and (dT_cmp (o_eqZ hr.units) (dE_var (μ := true) (pv 15)) (dE_c (μ := true) pe_str) (nomark _)) (dW_and1 (dT_cmp (o_eqZ hr.units) (dE_callB c_len (by rfl) m_len (by decide +kernel) (dA_cons (dE_ix (dE_var (μ := true) (pv 13)) (dE_var (μ := true) (pv 14))) (dA_nil (μ := true)))) (dE_c (μ := true) pe_int) (nomark _)))))))
    (nSs_cons (nS_asg (K := K) (p := .nm 18) (ps_set (i := 18) sc_law.nd rfl (.inl rfl) (nE_pure (dE_cl C_paperfault (hr.mono (by omega)) (by rfl) (dA_cons (dE_var (μ := true) (pv 2)) (dA_cons (dE_callTy c_tuple (by rfl) m_tuple (by decide +kernel) (dA_cons (dE_op o_add (dE_op o_add (dE_var (μ := true) (pv 3)) (dE_var (μ := true) (pv 16))) (dE_lst (dA_cons (dE_ix (dE_var (μ := true) (pv 13)) (dE_var (μ := true) (pv 14))) (dA_nil (μ := true))))) (dA_nil (μ := true)))) (dA_nil (μ := true))))))))
  (nSs_one (nS_if (nT_pure (dT_not (dT_val (dE_cl C__law_alike (hr.mono (by omega)) (by rfl) (dA_cons (dE_var (μ := true) (pv 18)) (dA_cons (dE_tup (dA_cons (dE_op o_add (dE_callB c_len (by rfl) m_len (by decide +kernel) (dA_cons (dE_var (μ := true) (pv 3)) (dA_nil (μ := true)))) (dE_var (μ := true) (pv 14))) (dA_cons (dE_var (μ := true) (pv 15)) (dA_nil (μ := true))))) (dA_nil (μ := true))))))))
    (nSs_one (nS_retL (ps_ret (dE_c (μ := true) pe_bl))))
    nSs_nil)))
    nSs_nil)))))
    nSs_nil)
  (nSs_one (nS_retL (ps_ret (dE_cl C__law_alike (hr.mono (by omega)) (by rfl) (dA_cons (dE_ix (dE_cl C_things (hr.mono (by omega)) (by rfl) (dA_cons (dE_var (μ := true) (pv 2)) (dA_cons (dE_cl C_trimmed (hr.mono (by omega)) (by rfl) (dA_cons (dE_callTy c_tuple (by rfl) m_tuple (by decide +kernel) (dA_cons (dE_op o_add (dE_var (μ := true) (pv 3)) (dE_var (μ := true) (pv 7))) (dA_nil (μ := true)))) (dA_nil (μ := true)))) (dA_nil (μ := true))))) (dE_neg (dE_c (μ := true) pe_int))) (dA_cons (dE_ix (dE_var (μ := true) (pv 6)) (dE_neg (dE_c (μ := true) pe_int))) (dA_nil (μ := true))))))))))))))))))))))), ?_⟩
    refine ⟨.ref a, rfl, a, ns, rfl, hS, hn, fun g H1 _ F1 => ?_⟩
    refine ⟨g, g.own, H1, lawR none none none none none none none none none none none none none none none none none, 1000000, ⟨.refl, fun p o => g.alive F1 o, fun p o => g.alive F1 o, fun p o => o, F1, rfl, fun i d e => ?_, fun i d e => ?_, fun i d e => ?_, fun i e => ?_, fun i j a b p e => ?_⟩, ?_⟩
    · match i, e with
      | 0, e | 1, e | 2, e | 3, e | 4, e | 5, e | 6, e | 7, e | 8, e | 9, e | 10, e | 11, e | 12, e | 13, e | 14, e | 15, e | 16, e | 17, e | 18, e | 19, e => cases e
      | i + 20, e => cases e
    · match i, e with
      | 0, e | 1, e | 2, e | 3, e | 4, e | 5, e | 6, e | 7, e | 8, e | 9, e | 10, e | 11, e | 12, e | 13, e | 14, e | 15, e | 16, e | 17, e | 18, e | 19, e => cases e
      | i + 20, e => cases e
    · match i, e with
      | 0, e | 1, e | 2, e | 3, e | 4, e | 5, e | 6, e | 7, e | 8, e | 9, e | 10, e | 11, e | 12, e | 13, e | 14, e | 15, e | 16, e | 17, e | 18, e | 19, e => cases e
      | i + 20, e => cases e
    · match i, e with
      | 1, e => rfl
      | 0, e | 2, e | 3, e | 4, e | 5, e | 6, e | 7, e | 8, e | 9, e | 10, e | 11, e | 12, e | 13, e | 14, e | 15, e | 16, e | 17, e | 18, e | 19, e => cases e
      | i + 20, e => cases e
    · match i, e with
      | 0, e | 1, e | 2, e | 3, e | 4, e | 5, e | 6, e | 7, e | 8, e | 9, e | 10, e | 11, e | 12, e | 13, e | 14, e | 15, e | 16, e | 17, e | 18, e | 19, e => cases e
      | i + 20, e => cases e
    refine WP.m _ (P := fun o b => o = .rt (.bool true)) (fun o b' e => ?_) ?_
    · subst e
      intro v H' _ _ r
      cases r
      exact q H'
    refine ⟨rfl, .int 6, rfl, .int 20, rfl, _, rfl, _, rfl, rfl, ⟨6, 20, rfl, by decide, by decide, by decide, by decide⟩, by decide, fun W b1 hW h1 => ?_⟩
    obtain ⟨X, rfl, hX⟩ := world_X hW
    refine ⟨lawR (some (.dat X.d)) none none none none none none none none none none none none none none none none, rfl, ?_⟩
    refine ⟨rfl, X.d, rfl, .int 10, rfl, _, rfl, _, rfl, rfl, ⟨X, 10, rfl, hX, by decide, by decide⟩, by omega, fun PP b2 hPP h2 => ?_⟩
    obtain ⟨X', N', rs, ts, e, rfl, hP, r56⟩ := hPP
    injection e with e _
    cases Wd.inj e
    have hG := hP.gd.toI
    have tl := hP.len
    let L : List D := rs.map Rw.d
    let T : List D := ts.map Tg.d
    have ll : L.length = rs.length := List.length_map ..
    have tll : T.length = ts.length := List.length_map ..
    let M3 : Option LV := some (.dat (.list L))
    let M4 : Option LV := some (.dat (.list T))
    let R0 : Option LV → Option LV → Option LV → Option LV → Option LV → Option LV → Option LV → Option LV → Option LV → Option LV → Option LV → Option LV → Option LV → Option LV → Rho := fun a5 a6 a7 a8 a9 a10 a11 a12 a13 a14 a15 a16 a17 a18 => lawR (some (.dat X.d)) M3 M4 a5 a6 a7 a8 a9 a10 a11 a12 a13 a14 a15 a16 a17 a18
    refine ⟨[.list L, .list T], R0 none none none none none none none none none none none none none none, rfl, rfl, ?_⟩
    refine ⟨rfl, X.d, rfl, .int 8, rfl, _, rfl, _, rfl, rfl, ⟨X, 8, rfl, hX, by decide, by decide⟩, by omega, fun PP b3 hPP h3 => ?_⟩
    obtain ⟨X', N', os, us, e, rfl, hO, o56⟩ := hPP
    injection e with e _
    cases Wd.inj e
    have kG := hO.gd.toI
    have ul := hO.len
    let O : List D := os.map Rw.d
    let U : List D := us.map Tg.d
    have ol : O.length = os.length := List.length_map ..
    have ull : U.length = us.length := List.length_map ..
    let M5 : Option LV := some (.dat (.list O))
    let M6 : Option LV := some (.dat (.list U))
    let R : Option LV → Option LV → Option LV → Option LV → Option LV → Option LV → Option LV → Option LV → Option LV → Option LV → Option LV → Option LV → Rho := fun a7 a8 a9 a10 a11 a12 a13 a14 a15 a16 a17 a18 => R0 M5 M6 a7 a8 a9 a10 a11 a12 a13 a14 a15 a16 a17 a18
    refine ⟨[.list O, .list U], R none none none none none none none none none none none none, rfl, rfl, ?_⟩
    have c0 : oOr (oB (e2 eqZ (eVar 3) (eLst aNil))) (oB (e2 eqZ (eVar 5) (eLst aNil))) (shutR true (R none none none none none none none none none none none none)) = some (L.isEmpty || O.isEmpty) := by
      refine (ev_oOr (b := L.isEmpty) (ev_oB (ev_e2 (a := .list L) (b := .list []) rfl rfl rfl))).trans ?_
      cases L.isEmpty with
      | true => rfl
      | false => exact ev_oB (ev_e2 (a := .list O) (b := .list []) rfl rfl rfl)
    refine ⟨_, c0, iteB (fun _ => ?_) (fun hne => ?_)⟩
    · have eF : SFlt.f [X.d, .tuple []] = some (.tuple [.int (-1), S "paper"]) := Sem.of (S := SFlt) (x := (X, .tuple [])) ⟨hX, rfl⟩
      have dp : dpA 4 (.tuple [.int (-1), S "paper"]) := dpA3_4 (show dpA 3 (fltP X (.tuple [])) from flt_dp)
      exact ⟨.bool true, ev_call (ds := [.tuple [.int (-1), S "paper"], .tuple [.int (-1), S "paper"]]) (ev_cons (ev_call (ds := [X.d, .tuple []]) rfl rfl eF) (ev_cons rfl rfl)) rfl (sAq_ok dp), rfl⟩
    obtain ⟨hL0, hO0⟩ := Bool.or_eq_false_iff.mp hne
    have ne : rs ≠ [] := fun z => by
      rw [show L = [] by show rs.map Rw.d = []; rw [z]; rfl] at hL0
      cases hL0
    have one : os ≠ [] := fun z => by
      rw [show O = [] by show os.map Rw.d = []; rw [z]; rfl] at hO0
      cases hO0
    have n0 : 0 < rs.length := List.length_pos_iff.mpr ne
    have m0 : 0 < os.length := List.length_pos_iff.mpr one
    -- the second paper led on behind the first one
    let N1 : List Int := (List.range os.length).map fun (k : Nat) => (rs.length : Int) + k
    have n1l : N1.length = os.length := by show ((List.range os.length).map _).length = _; rw [List.length_map, List.length_range]
    have eN1 : ∀ ρ : Rho, eVar 5 ρ = some (.list O) → eVar 3 ρ = some (.list L) → (∀ d, eVar 3 ((wipeR (shutR true ρ) [19]).set 19 (some (.dat d))) = some (.list L) ∧ eVar 19 ((wipeR (shutR true ρ) [19]).set 19 (some (.dat d))) = some d ∧ 19 < (wipeR (shutR true ρ) [19]).length) → eLc true [19] (itG ran1D (aCons (eCall lenD (aCons (eVar 5) aNil)) aNil)) (.nm 19) oYes (e2 addD (eCall lenD (aCons (eVar 3) aNil)) (eVar 19)) ρ = some (.list (N1.map PyData.int)) := fun ρ h5 h3 hw => by
      have e1 : eCall lenD (aCons (eVar 5) aNil) ρ = some (.int (O.length : Int)) := by
        unfold eCall
        exact (congrArg (fun o : Option (List D) => o.bind lenD) (ev_cons (ds := []) h5 rfl)).trans rfl
      refine ev_lcE (items := rgD 0 os.length) (ev_itG (ds := [.int (O.length : Int)]) (ev_cons e1 rfl) ((ran1_ok (by omega) (by omega)).trans (by rw [Int.toNat_natCast, ol]))) ?_
      show _ = some (((List.range os.length).map _).map PyData.int)
      rw [List.map_map]
      refine ev_lcG (e := fun (i : Nat) => PyData.int ((0 : Int) + i)) (t := PyData.int ∘ fun (k : Nat) => (rs.length : Int) + k) (List.range os.length) ?_
      intro k _
      obtain ⟨w1, w2, w3⟩ := hw (.int ((0 : Int) + k))
      refine ⟨(wipeR (shutR true ρ) [19]).set 19 (some (.dat (.int ((0 : Int) + k)))), by unfold bindP; rw [if_pos w3], ?_⟩
      have e2' : eCall lenD (aCons (eVar 3) aNil) ((wipeR (shutR true ρ) [19]).set 19 (some (.dat (.int ((0 : Int) + k))))) = some (.int (L.length : Int)) := by
        unfold eCall
        exact (congrArg (fun o : Option (List D) => o.bind lenD) (ev_cons (ds := []) w1 rfl)).trans rfl
      refine (ev_e2 (g := addD) e2' w2 rfl).trans ?_
      show some (PyData.int ((L.length : Int) + (0 + (k : Int)))) = some (PyData.int ((rs.length : Int) + k))
      rw [ll, Int.zero_add]
    have nmN : ∀ p : Int, 0 ≤ p → p < os.length → nmF N1 p = p + (rs.length : Int) := fun p h0 h1 => by
      unfold nmF
      show (((List.range os.length).map fun (k : Nat) => (rs.length : Int) + k)[p.toNat]?).getD 0 = _
      rw [List.getElem?_map, List.getElem?_range (by omega)]
      show (rs.length : Int) + ((p.toNat : Nat) : Int) = _
      omega
    have ledO : ∀ k : Nat, k ≤ os.length → SLd.f [.list ((os.take k).map Rw.d), .list (N1.map PyData.int)] = some (.list (((os.take k).map (Rw.ren (· + (rs.length : Int)))).map Rw.d)) := fun k hk => by
      have kt := kG.take k
      have klen : (os.take k).length = k := by rw [List.length_take]; omega
      refine (Sem.of (S := SLd) (x := ((os.take k).map Rw.d, N1)) ⟨⟨_, rfl⟩, by rw [List.length_map]; omega, fun d hd => ?_, fun d hd p hp => ?_⟩).trans ?_
      · obtain ⟨r, hr, rfl⟩ := List.mem_map.mp hd
        rw [ptsD_d]
        exact kt.pl hX r hr
      · obtain ⟨r, hr, rfl⟩ := List.mem_map.mp hd
        rw [ptsD_d] at hp
        obtain ⟨i, hi⟩ := List.getElem?_of_mem hr
        have hb := (kt.row i r hi).1.pts p hp
        rw [List.length_take, List.length_take] at hb
        omega
      · show some (PyData.list (((os.take k).map Rw.d).map (renD (nmF N1)))) = _
        rw [List.map_map, List.map_map]
        congr 2
        refine List.map_congr_left fun r hr => ?_
        show renD (nmF N1) r.d = (r.ren _).d
        rw [renD_d, ren_congr (g := (· + (rs.length : Int))) fun p hp => ?_]
        obtain ⟨i, hi⟩ := List.getElem?_of_mem hr
        have hb := (kt.row i r hi).1.pts p hp
        rw [List.length_take, List.length_take] at hb
        exact nmN p hb.1 (by omega)
    obtain ⟨B, hB⟩ : ∃ B : List Rw, B = os.map (Rw.ren (· + (rs.length : Int))) := ⟨_, rfl⟩
    have bl : B.length = os.length := by rw [hB, List.length_map]
    have eB : SLd.f [.list O, .list (N1.map PyData.int)] = some (.list (B.map Rw.d)) := by
      have := ledO os.length (Nat.le_refl _)
      rwa [List.take_length, ← hB] at this
    let M7 : Option LV := some (.dat (.list (B.map Rw.d)))
    refine ⟨.list (B.map Rw.d), ev_call (ds := [.list O, .list (N1.map PyData.int)]) (ev_cons rfl (ev_cons (eN1 _ rfl rfl fun d => ⟨rfl, rfl, by show 19 < 20; decide⟩) rfl)) rfl eB, R M7 none none none none none none none none none none none, rfl, ?_⟩
    obtain ⟨Z, hZ⟩ : ∃ Z : List Rw, Z = rs ++ B := ⟨_, rfl⟩
    have cG : GdI X Z (ts ++ us) := by
      rw [hZ, hB]
      exact hG.cat kG
    have zl : Z.length = rs.length + os.length := by rw [hZ, List.length_append, bl]
    have zne : Z ≠ [] := fun z => by
      have := congrArg List.length z
      rw [zl, List.length_nil] at this
      omega
    let ZD : D := .tuple (Z.map Rw.d)
    let ZT : D := .tuple ((ts ++ us).map Tg.d)
    have addZ : addD (.list L) (.list (B.map Rw.d)) = some (.list (Z.map Rw.d)) := by
      rw [add_lst (sz (by rw [ll, List.length_map, bl]; omega)), hZ, List.map_append]
    have addT : addD (.list T) (.list U) = some (.list ((ts ++ us).map Tg.d)) := by
      rw [add_lst (sz (by rw [tll, ull]; omega)), List.map_append]
    have eZ := cG.thg hX zne (by rw [zl]; omega)
    have dZ : dpA 4 ZT := dp_tgs (by rw [List.length_append]; omega) (cG.sk hX)
    have tupZ : ∀ ρ : Rho, eVar 3 ρ = some (.list L) → eVar 7 ρ = some (.list (B.map Rw.d)) → eCall tupD (aCons (e2 addD (eVar 3) (eVar 7)) aNil) ρ = some ZD := fun ρ h3 h7 => by
      unfold eCall
      exact (congrArg (fun o : Option (List D) => o.bind tupD) (ev_cons (ds := []) (ev_e2 h3 h7 addZ) rfl)).trans rfl
    have tupT : ∀ ρ : Rho, eVar 4 ρ = some (.list T) → eVar 6 ρ = some (.list U) → eCall tupD (aCons (e2 addD (eVar 4) (eVar 6)) aNil) ρ = some ZT := fun ρ h3 h7 => by
      unfold eCall
      exact (congrArg (fun o : Option (List D) => o.bind tupD) (ev_cons (ds := []) (ev_e2 h3 h7 addT) rfl)).trans rfl
    refine ⟨false, ev_not (b := true) (ev_oB (ev_call (ds := [ZT, ZT]) (ev_cons (ev_call (ds := [X.d, ZD]) (ev_cons rfl (ev_cons (tupZ _ rfl rfl) rfl)) rfl eZ) (ev_cons (tupT _ rfl rfl) rfl)) rfl (sAq_ok dZ))), ?_⟩
    -- another order
    refine ⟨rfl, .list L, rfl, _, rfl, rfl, ⟨rs, rfl, hG.ahd, by omega⟩, by omega, fun d b4 hd h4 => ?_⟩
    obtain ⟨rs', fs, e, rfl, hM⟩ := hd
    injection e with e _
    injection e with e
    have eps : rs'.map Rw.pts = rs.map Rw.pts := by
      rw [← ptsD_map, ← ptsD_map]
      exact congrArg (List.map ptsD) e.symm
    rw [eps] at hM
    have fl : fs.length = rs.length := by
      have := hM.len
      rw [List.length_nil, Nat.zero_add, List.length_map] at this
      exact this
    have fm : ∀ i : Int, 0 ≤ i → i < rs.length → i ∈ fs := fun i h0 h1 => (hM.mem i h0 (by rw [List.length_map]; exact h1)).mpr fun z => nomatch z
    have fb : ∀ i ∈ fs, 0 ≤ i ∧ i < (rs.length : Int) := fun i hi => by
      have := hM.fb i hi
      rwa [List.length_map] at this
    let M8 : Option LV := some (.dat (.list (fs.map PyData.int)))
    refine ⟨R M7 M8 none none none none none none none none none none, rfl, ?_⟩
    let NM : List Int := (List.range rs.length).map fun (k : Nat) => ((fs.idxOf (k : Int) : Nat) : Int)
    have nml : NM.length = rs.length := by show ((List.range rs.length).map _).length = _; rw [List.length_map, List.length_range]
    have eNM : eLc true [19] (itG ran1D (aCons (eCall lenD (aCons (eVar 3) aNil)) aNil)) (.nm 19) oYes (e2 idxLD (eVar 8) (eVar 19)) (shutR false (R M7 M8 none none none none none none none none none none)) = some (.list (NM.map PyData.int)) := by
      refine ev_lcE (items := rgD 0 rs.length) (ev_itG (ds := [.int (L.length : Int)]) rfl ((ran1_ok (by omega) (by omega)).trans (by rw [Int.toNat_natCast, ll]))) ?_
      show _ = some (((List.range rs.length).map _).map PyData.int)
      rw [List.map_map]
      refine ev_lcG (e := fun (i : Nat) => PyData.int ((0 : Int) + i)) (t := PyData.int ∘ fun (k : Nat) => ((fs.idxOf (k : Int) : Nat) : Int)) (List.range rs.length) ?_
      intro k hk
      have hk := List.mem_range.mp hk
      refine ⟨_, rfl, ?_⟩
      refine ev_e2 (a := .list (fs.map PyData.int)) (b := .int ((0 : Int) + k)) rfl rfl ?_
      rw [Int.zero_add]
      show (if (okD (.list (fs.map PyData.int)) && okD (.int (k : Int))) = true then ((fs.map PyData.int).findIdx? fun z => PyData.eqv z (.int (k : Int))).map fun j => PyData.int (j : Nat) else none) = _
      rw [ok_ints, fidx (fm k (by omega) (by omega))]
      rfl
    let M9 : Option LV := some (.dat (.list (NM.map PyData.int)))
    refine ⟨NM.map PyData.int, eNM, nlAll_int _, R M7 M8 M9 none none none none none none none none none, rfl, ?_⟩
    let FR : List Rw := fs.map fun i => rwAt rs i.toNat
    let TR : List Rw := FR.map (Rw.ren (nmF NM))
    let TT : List Tg := fs.map fun i => tgI ts i.toNat
    have atR : ∀ i ∈ fs, rs[i.toNat]? = some (rwAt rs i.toNat) ∧ ts[i.toNat]? = some (tgI ts i.toNat) := fun i hi => by
      have := fb i hi
      exact ⟨by unfold rwAt; rw [List.getElem?_eq_getElem (by omega)]; rfl, by unfold tgI; rw [List.getElem?_eq_getElem (by omega)]; rfl⟩
    have eFR : ∀ ρ : Rho, (∀ d, eVar 3 ((wipeR (shutR true ρ) [19]).set 19 (some (.dat d))) = some (.list L) ∧ eVar 19 ((wipeR (shutR true ρ) [19]).set 19 (some (.dat d))) = some d ∧ 19 < (wipeR (shutR true ρ) [19]).length) → eVar 8 ρ = some (.list (fs.map PyData.int)) → eLc true [19] (itSeq (eVar 8)) (.nm 19) oYes (e2 ixD (eVar 3) (eVar 19)) ρ = some (.list (FR.map Rw.d)) := fun ρ hw h8 => by
      refine ev_lcE (items := fs.map PyData.int) (by unfold itSeq; rw [h8]; rfl) ?_
      show _ = some ((fs.map _).map Rw.d)
      rw [List.map_map]
      refine ev_lcG (e := PyData.int) (t := Rw.d ∘ fun i => rwAt rs i.toNat) fs ?_
      intro i hi
      obtain ⟨w1, w2, w3⟩ := hw (.int i)
      refine ⟨_, by unfold bindP; rw [if_pos w3], ?_⟩
      have ib := fb i hi
      obtain ⟨n, rfl⟩ : ∃ n : Nat, i = n := ⟨i.toNat, by omega⟩
      exact ev_e2 w1 w2 (at_map (atR _ hi).1)
    have eTR : SLd.f [.list (FR.map Rw.d), .list (NM.map PyData.int)] = some (.list (TR.map Rw.d)) := by
      have pb : ∀ d ∈ FR.map Rw.d, ∃ (i : Nat) (r : Rw), rs[i]? = some r ∧ d = r.d := fun d hd => by
        obtain ⟨r, hr, rfl⟩ := List.mem_map.mp hd
        obtain ⟨i, hi, rfl⟩ := List.mem_map.mp hr
        exact ⟨_, _, (atR i hi).1, rfl⟩
      refine (Sem.of (S := SLd) (x := (FR.map Rw.d, NM)) ⟨⟨_, rfl⟩, by rw [List.length_map, List.length_map]; omega, fun d hd => ?_, fun d hd p hp => ?_⟩).trans ?_
      · obtain ⟨i, r, hr, rfl⟩ := pb d hd
        rw [ptsD_d]
        exact hG.pl hX r (List.mem_of_getElem? hr)
      · obtain ⟨i, r, hr, rfl⟩ := pb d hd
        rw [ptsD_d] at hp
        have hb := (hG.row i r hr).1.pts p hp
        have := List.length_take_le i ts
        rw [List.length_take] at hb
        rw [nml]
        omega
      · show some (PyData.list ((FR.map Rw.d).map (renD (nmF NM)))) = some (PyData.list ((FR.map (Rw.ren (nmF NM))).map Rw.d))
        exact congrArg (fun z => some (PyData.list z)) (ren_map _ _)
    have hTR : GdI X TR TT := by
      refine hG.remap (ix := fs.map Int.toNat) (f := nmF NM) (by show ((fs.map _).map _).length = _; rw [List.length_map, List.length_map, List.length_map]) (by rw [List.length_map, List.length_map]) fun j i ej => ?_
      rw [List.getElem?_map] at ej
      cases hj : fs[j]? with
      | none => rw [hj] at ej; cases ej
      | some x =>
        rw [hj] at ej
        cases ej
        obtain ⟨r1, r2⟩ := atR x (List.mem_of_getElem? hj)
        refine ⟨_, _, r1, r2, ?_, by rw [List.getElem?_map, hj]; rfl, fun p hp => ?_⟩
        · show ((fs.map _).map _)[j]? = _
          rw [List.getElem?_map, List.getElem?_map, hj]
          rfl
        · have ep : (rs.map Rw.pts)[x.toNat]? = some (rwAt rs x.toNat).pts := by rw [List.getElem?_map, r1]; rfl
          obtain ⟨q', hq, eq⟩ := hM.ahd j x hj _ ep p hp
          have pb := fb p (List.mem_of_getElem? eq)
          have eidx : fs.idxOf p = q' := nodup_inj hM.fnd (idx_getI (List.mem_of_getElem? eq)) eq
          refine ⟨q', ?_, hq, by rw [List.getElem?_map, eq]; rfl⟩
          unfold nmF
          show (((List.range rs.length).map fun (k : Nat) => ((fs.idxOf (k : Int) : Nat) : Int))[p.toNat]?).getD 0 = _
          rw [List.getElem?_map, List.getElem?_range (by omega)]
          show ((fs.idxOf ((p.toNat : Nat) : Int) : Nat) : Int) = _
          rw [show ((p.toNat : Nat) : Int) = p by omega, eidx]
    have trl : TR.length = rs.length := by show ((fs.map _).map _).length = _; rw [List.length_map, List.length_map, fl]
    have trne : TR ≠ [] := fun z => by
      have := congrArg List.length z
      rw [trl, List.length_nil] at this
      omega
    let TD : D := .tuple (TR.map Rw.d)
    let TTD : D := .tuple (TT.map Tg.d)
    refine ⟨TD, ?_, R M7 M8 M9 (some (.dat TD)) none none none none none none none none, rfl, ?_⟩
    · have el : eCall (gN 2 SLd.f) (aCons (eLc true [19] (itSeq (eVar 8)) (.nm 19) oYes (e2 ixD (eVar 3) (eVar 19))) (aCons (eVar 9) aNil)) (shutR true (R M7 M8 M9 none none none none none none none none none)) = some (.list (TR.map Rw.d)) := ev_call (ds := [.list (FR.map Rw.d), .list (NM.map PyData.int)]) (ev_cons (eFR _ (fun d => ⟨rfl, rfl, by show 19 < 20; decide⟩) rfl) (ev_cons rfl rfl)) rfl eTR
      show eCall tupD _ _ = _
      unfold eCall
      exact (congrArg (fun o : Option (List D) => o.bind tupD) (ev_cons (ds := []) el rfl)).trans rfl
    have eTT : eLc true [19] (itSeq (eVar 8)) (.nm 19) oYes (e2 ixD (eVar 4) (eVar 19)) (shutR true (R M7 M8 M9 (some (.dat TD)) none none none none none none none none)) = some (.list (TT.map Tg.d)) := by
      refine ev_lcE (items := fs.map PyData.int) rfl ?_
      show _ = some ((fs.map _).map Tg.d)
      rw [List.map_map]
      refine ev_lcG (e := PyData.int) (t := Tg.d ∘ fun i => tgI ts i.toNat) fs ?_
      intro i hi
      refine ⟨_, rfl, ?_⟩
      have ib := fb i hi
      obtain ⟨n, rfl⟩ : ∃ n : Nat, i = n := ⟨i.toNat, by omega⟩
      exact ev_e2 (a := .list T) (b := .int (n : Nat)) rfl rfl (at_map (atR _ hi).2)
    have eTTD : eCall tupD (aCons (eLc true [19] (itSeq (eVar 8)) (.nm 19) oYes (e2 ixD (eVar 4) (eVar 19))) aNil) (shutR true (R M7 M8 M9 (some (.dat TD)) none none none none none none none none)) = some TTD := by
      unfold eCall
      exact (congrArg (fun o : Option (List D) => o.bind tupD) (ev_cons (ds := []) eTT rfl)).trans rfl
    have dTT : dpA 4 TTD := dp_tgs (by rw [hTR.len, trl]; omega) (hTR.sk hX)
    refine ⟨false, ev_not (b := true) (ev_oB (ev_call (ds := [TTD, TTD]) (ev_cons (ev_call (ds := [X.d, TD]) rfl rfl (hTR.thg hX trne (by omega))) (ev_cons eTTD rfl)) rfl (sAq_ok dTT))), ?_⟩
    -- a row once more
    refine wNext (m := (L.length : Int)) rfl rfl (by omega) (by omega) (by omega) fun v5 b5 v50 v51 h5 => ?_
    obtain ⟨sp, rfl⟩ : ∃ sp : Nat, v5 = sp := ⟨v5.toNat, by omega⟩
    have hsp : sp < rs.length := by omega
    let M10 : Option LV := some (.dat TD)
    let M11 : Option LV := some (.dat (.int (sp : Nat)))
    refine ⟨R M7 M8 M9 M10 M11 none none none none none none none, rfl, ?_⟩
    have er : rs[sp]? = some (rwAt rs sp) := by unfold rwAt; rw [List.getElem?_eq_getElem hsp]; rfl
    have et : ts[sp]? = some (tgI ts sp) := by unfold tgI; rw [List.getElem?_eq_getElem (by omega)]; rfl
    have aG := hG.again er et
    let AD : D := .tuple ((rs ++ [rwAt rs sp]).map Rw.d)
    let AT : D := .tuple ((ts ++ [tgI ts sp]).map Tg.d)
    have anl : (rs ++ [rwAt rs sp]).length = rs.length + 1 := by rw [List.length_append, List.length_singleton]
    have eAT := aG.thg hX (by simp) (by omega)
    have addA : addD (.list L) (.list [(rwAt rs sp).d]) = some (.list ((rs ++ [rwAt rs sp]).map Rw.d)) := by
      rw [add_lst (sz (by rw [ll, List.length_singleton]; omega)), List.map_append]
      rfl
    have addB : addD (.list T) (.list [(tgI ts sp).d]) = some (.list ((ts ++ [tgI ts sp]).map Tg.d)) := by
      rw [add_lst (sz (by rw [tll, List.length_singleton]; omega)), List.map_append]
      rfl
    refine ⟨AT, ev_call (ds := [X.d, AD]) (ev_cons rfl (ev_cons ?_ rfl)) rfl eAT, R M7 M8 M9 M10 M11 (some (.dat AT)) none none none none none none, rfl, ?_⟩
    · have e1 : eLst (aCons (e2 ixD (eVar 3) (eVar 11)) aNil) (shutR true (R M7 M8 M9 M10 M11 none none none none none none none)) = some (.list [(rwAt rs sp).d]) := ev_lstX (ev_cons (ev_e2 (a := .list L) (b := .int (sp : Nat)) rfl rfl (at_map er)) rfl) (by simp)
      show eCall tupD (aCons (e2 addD (eVar 3) (eLst (aCons (e2 ixD (eVar 3) (eVar 11)) aNil))) aNil) _ = _
      unfold eCall
      exact (congrArg (fun o : Option (List D) => o.bind tupD) (ev_cons (ds := []) (ev_e2 (a := .list L) rfl e1 addA) rfl)).trans rfl
    let M12 : Option LV := some (.dat AT)
    have dAT : dpA 4 AT := dp_tgs (by rw [List.length_append, List.length_singleton]; omega) (aG.sk hX)
    have eAT2 : eCall tupD (aCons (e2 addD (eVar 4) (eLst (aCons (e2 ixD (eVar 4) (eVar 11)) aNil))) aNil) (shutR true (R M7 M8 M9 M10 M11 M12 none none none none none none)) = some AT := by
      have e1 : eLst (aCons (e2 ixD (eVar 4) (eVar 11)) aNil) (shutR true (R M7 M8 M9 M10 M11 M12 none none none none none none)) = some (.list [(tgI ts sp).d]) := ev_lstX (ev_cons (ev_e2 (a := .list T) (b := .int (sp : Nat)) rfl rfl (at_map et)) rfl) (by simp)
      unfold eCall
      exact (congrArg (fun o : Option (List D) => o.bind tupD) (ev_cons (ds := []) (ev_e2 (a := .list T) rfl e1 addB) rfl)).trans rfl
    refine ⟨false, ev_not (b := true) (ev_oB (ev_call (ds := [AT, AT]) (ev_cons rfl (ev_cons eAT2 rfl)) rfl (sAq_ok dAT))), ?_⟩
    -- a fault in the second paper
    refine ⟨rfl, .tuple O, rfl, _, rfl, rfl, ⟨os, rfl, o56, hO.sm⟩, by omega, fun BT b6 pB h6 => ?_⟩
    obtain ⟨pB, pl⟩ := pB
    have gB : gq BT = true := pB.1.gq (by decide)
    let M13 : Option LV := some (.dat BT)
    let R2 : Option LV → Option LV → Option LV → Option LV → Option LV → Rho := fun a b c d e => R M7 M8 M9 M10 M11 M12 M13 a b c d e
    refine ⟨R2 none none none none none, rfl, ?_⟩
    -- the end, whatever stands in the last slots
    have fin : ∀ (a b c d e : Option LV) (b' : Nat), (swRetL (eCall (gN 2 (sAq 4)) (aCons (e2 ixD (eCall (gN 2 STh0.f) (aCons (eVar 2) (aCons (eCall (gN 1 STrm.f) (aCons (eCall tupD (aCons (e2 addD (eVar 3) (eVar 7)) aNil)) aNil)) aNil))) (e1 negD (eC (.int 1)))) (aCons (e2 ixD (eVar 6) (e1 negD (eC (.int 1)))) aNil)))).w (R2 a b c d e) b' fun o _ => o = .rt (.bool true) := fun a b c d e b' => by
      have zp := okPp.of hX cG zne (by rw [zl]; omega)
      have eTm : STrm.f [ZD] = some (.tuple ((trm Z).map Rw.d)) := (Sem.of (S := STrm) (x := Z.map Rw.d) zp).trans (congrArg (fun z => some (PyData.tuple z)) (trmD_d cG))
      have tg := trim_gd cG
      have tml : (trm Z).length = (ndR Z).length := List.length_map ..
      have ndl : (ndR Z).length ≤ Z.length := nd_le (X := X)
      have eTh := tg.thg hX (trm_ne cG zne) (by omega)
      -- the last one stays the last one
      have lastM : Z.length - 1 ∈ ndR Z := (Nd.mem cG.ahd).mpr (by
        have := Rch.last (ps := Z.map Rw.pts) (by rw [List.length_map]; omega)
        rwa [List.length_map] at this)
      have ndp : 0 < (ndR Z).length := List.length_pos_of_mem lastM
      have lastI : (ndR Z)[(ndR Z).length - 1]? = some (Z.length - 1) := by
        have pw : (ndR Z).Pairwise (· < ·) := Nd.pw _
        have hj := idx_get lastM
        have hjl := (List.getElem?_eq_some_iff.mp hj).1
        rcases Nat.lt_or_ge ((ndR Z).idxOf (Z.length - 1)) ((ndR Z).length - 1) with h1 | h1
        · obtain ⟨x, hx⟩ : ∃ x, (ndR Z)[(ndR Z).length - 1]? = some x := ⟨_, List.getElem?_eq_getElem (by omega)⟩
          obtain ⟨_, xlt, _, _⟩ := nd_get cG hx
          obtain ⟨a1, e1⟩ := List.getElem?_eq_some_iff.mp hj
          obtain ⟨a2, e2⟩ := List.getElem?_eq_some_iff.mp hx
          have := List.pairwise_iff_getElem.mp pw _ _ a1 a2 h1
          omega
        · rw [show (ndR Z).length - 1 = (ndR Z).idxOf (Z.length - 1) by omega]
          exact hj
      let G := tgI (ts ++ us) (Z.length - 1)
      have eG : (ts ++ us)[Z.length - 1]? = some G := by show _ = some (tgI _ _); unfold tgI; rw [List.getElem?_eq_getElem (by rw [List.length_append, zl]; omega)]; rfl
      have eU : U[U.length - 1]? = some G.d := by
        rw [List.getElem?_append_right (by rw [zl]; omega)] at eG
        show (us.map Tg.d)[_]? = _
        rw [List.getElem?_map, List.length_map, show us.length - 1 = Z.length - 1 - ts.length by rw [zl]; omega, eG]
        rfl
      have lst1 : ixD (.tuple (((ndR Z).map (tgI (ts ++ us))).map Tg.d)) (.int (-1)) = some G.d := by
        refine atI_last (by rw [List.length_map, List.length_map]; exact ndp) ?_
        rw [List.length_map, List.length_map, List.getElem?_map, List.getElem?_map, lastI]
        rfl
      have lst2 : ixD (.list U) (.int (-1)) = some G.d := atI_last (by omega) eU
      have dG : dpA 4 G.d := by
        have := (dZ.2 G.d (List.mem_map.mpr ⟨G, List.mem_of_getElem? eG, rfl⟩))
        exact dpA3_4 this
      refine ⟨.bool true, ?_, rfl⟩
      exact ev_call (ds := [G.d, G.d]) (ev_cons (ev_e2 (b := .int (-1)) (ev_call (ds := [X.d, .tuple ((trm Z).map Rw.d)]) (ev_cons rfl (ev_cons (ev_call (ds := [ZD]) (ev_cons (tupZ _ rfl rfl) rfl) rfl eTm) rfl)) rfl eTh) rfl lst1) (ev_cons (ev_e2 (a := .list U) (b := .int (-1)) rfl rfl lst2) rfl)) rfl (sAq_ok dG)
    have eLk : SLok.f [X.d, BT] = some (.list [.list ((tldP X BT).map Tg.d), fltP X BT]) := Sem.of (S := SLok) (x := (X, BT)) ⟨hX, gB⟩
    have eL1 : ∀ ρ : Rho, eVar 2 ρ = some X.d → eVar 13 ρ = some BT → e2 ixD (eCall (gN 2 SLok.f) (aCons (eVar 2) (aCons (eVar 13) aNil))) (eC (.int 1)) ρ = some (fltP X BT) := fun ρ h2 h13 => ev_e2 (a := .list [.list ((tldP X BT).map Tg.d), fltP X BT]) (b := .int 1) (ev_call (ds := [X.d, BT]) (ev_cons h2 (ev_cons h13 rfl)) rfl eLk) rfl rfl
    let ρ0 := shutR true (R2 none none none none none)
    have cT : oB (e1 (isTy "tuple") (eVar 13)) ρ0 = some (isTup BT) := ev_oB (ev_e1 rfl (isi_tup BT))
    -- where no fault is told
    by_cases hq : ∃ es k z, BT = .tuple es ∧ (walkP X 0 [] es).1 = some (k, z)
    rotate_left
    · refine ⟨false, ?_, fin none none none none none b6⟩
      refine (ev_oAnd cT).trans ?_
      cases hT : isTup BT with
      | false => rfl
      | true =>
        obtain ⟨es, he⟩ : ∃ es, BT = .tuple es := by
          cases hBT : BT with
          | tuple es => exact ⟨es, rfl⟩
          | _ => rw [hBT] at hT; cases hT
        cases es with
        | nil =>
          have : oB (e2 neZ (eVar 13) (eTup aNil)) ρ0 = some false := ev_oB (ev_e2 (a := BT) (b := .tuple []) rfl rfl (by rw [he]; rfl))
          exact (ev_oAnd this).trans rfl
        | cons d0 es =>
          have : oB (e2 neZ (eVar 13) (eTup aNil)) ρ0 = some true := ev_oB (ev_e2 (a := BT) (b := .tuple []) rfl rfl (by rw [he]; rfl))
          refine (ev_oAnd this).trans ?_
          have f0 : fltP X BT = .none := by
            rw [he]
            show fltD (walkP X 0 [] (d0 :: es)).1 = .none
            cases hw : (walkP X 0 [] (d0 :: es)).1 with
            | none => rfl
            | some q => obtain ⟨k, z⟩ := q; exact (hq ⟨_, k, z, he, hw⟩).elim
          exact ev_oB (ev_e2 (a := fltP X BT) (b := .none) (eL1 _ rfl rfl) rfl (by rw [f0]; rfl))
    obtain ⟨es, k, z, he, hw⟩ := hq
    obtain ⟨j, dk, hkj, hdk, hwk, hpre⟩ := walk_at (X := X) (ds := es) (k0 := 0) (k := k) (ts := []) (ts' := (walkP X 0 [] es).2) (w := z) (Prod.ext hw rfl)
    rw [Nat.zero_add] at hkj
    subst hkj
    have hkl := (List.getElem?_eq_some_iff.mp hdk).1
    have esl : es.length ≤ os.length + 1 := by
      have := pl O es rfl he
      rwa [ol] at this
    have fk : fltP X BT = .tuple [.int (k : Nat), .str z] := by
      rw [he]
      cases es with
      | nil => cases hdk
      | cons d0 es =>
        show fltD (walkP X 0 [] (d0 :: es)).1 = _
        rw [hw]
        rfl
    have zok := walk_sk hw
    refine ⟨true, ?_, ?_⟩
    · refine (ev_oAnd cT).trans ?_
      rw [show isTup BT = true by rw [he]; rfl]
      have : oB (e2 neZ (eVar 13) (eTup aNil)) ρ0 = some true := ev_oB (ev_e2 (a := BT) (b := .tuple []) rfl rfl (by
        rw [he]
        cases es with
        | nil => cases hdk
        | cons d0 es => rfl))
      refine (ev_oAnd this).trans ?_
      exact ev_oB (ev_e2 (a := fltP X BT) (b := .none) (eL1 _ rfl rfl) rfl (by rw [fk]; rfl))
    let M14 : Option LV := some (.dat (.int (k : Nat)))
    let M15 : Option LV := some (.dat (.str z))
    refine ⟨fltP X BT, eL1 _ rfl rfl, R2 M14 M15 none none none, by rw [fk]; rfl, ?_⟩
    let FN : List Rw := (os.take k).map (Rw.ren (· + (rs.length : Int)))
    let M16 : Option LV := some (.dat (.list (FN.map Rw.d)))
    have sO : eSl (eVar 5) pNone (pSome (eVar 14)) (shutR true (R2 M14 M15 none none none)) = some (.list ((os.take k).map Rw.d)) := by
      have := sl_toL (xs := O) (j := k) (by omega)
      rw [show O.take k = (os.take k).map Rw.d from (List.map_take ..).symm] at this
      exact this
    refine ⟨.list (FN.map Rw.d), ev_call (ds := [.list ((os.take k).map Rw.d), .list (N1.map PyData.int)]) (ev_cons sO (ev_cons (eN1 _ rfl rfl fun d => ⟨rfl, rfl, by show 19 < 20; decide⟩) rfl)) rfl (ledO k (by omega)), R2 M14 M15 M16 none none, rfl, ?_⟩
    let kf : Nat → Bool := fun i => !sameB ((es[i]?).getD .none) ((O[i]?).getD .none)
    let SM : List D := ((List.range k).filter kf).map fun (i : Nat) => PyData.int ((0 : Int) + i)
    have eSM : eLc true [19] (itG ran1D (aCons (eVar 14) aNil)) (.nm 19) (oNot (oB (eCall (gN 2 (sAq 4)) (aCons (e2 ixD (eVar 13) (eVar 19)) (aCons (e2 ixD (eVar 5) (eVar 19)) aNil))))) (eVar 19) (shutR true (R2 M14 M15 M16 none none)) = some (.list SM) := by
      refine ev_lcE (items := rgD 0 k) (ev_itG (ds := [.int (k : Nat)]) rfl ((ran1_ok (by omega) (by omega)).trans (by rw [Int.toNat_natCast]))) ?_
      refine ev_lcGF (e := fun (i : Nat) => PyData.int ((0 : Int) + i)) (t := fun (i : Nat) => PyData.int ((0 : Int) + i)) (k := kf) (List.range k) ?_
      intro i hi
      have hi := List.mem_range.mp hi
      refine ⟨[none, some .pool, some (.dat X.d), M3, M4, M5, M6, M7, M8, M9, M10, M11, M12, M13, M14, M15, M16, none, none, some (.dat (.int ((0 : Int) + i)))], rfl, ?_, rfl⟩
      obtain ⟨n', r', hr', ho'⟩ := hpre i hi
      have eo : os[i]? = some (rwAt os i) := by unfold rwAt; rw [List.getElem?_eq_getElem (by omega)]; rfl
      have k1 : (es[i]?).getD .none = r'.d := by rw [hr']; rfl
      have k2 : (O[i]?).getD .none = (rwAt os i).d := by show ((os.map Rw.d)[i]?).getD .none = _; rw [List.getElem?_map, eo]; rfl
      have p1 : dpA 4 r'.d := dpA3_4 (dp_rw (ok_pl hX ho'))
      have p2 : dpA 4 (rwAt os i).d := dpA3_4 (dp_rw (kG.pl hX _ (List.mem_of_getElem? eo)))
      rw [Int.zero_add]
      show _ = some (!sameB ((es[i]?).getD .none) ((O[i]?).getD .none))
      rw [k1, k2]
      refine ev_not (ev_oB (ev_call (ds := [r'.d, (rwAt os i).d]) (ev_cons (ev_e2 (a := BT) (b := .int (i : Nat)) rfl rfl (by rw [he]; exact atI_nat hr')) (ev_cons (ev_e2 (a := .list O) (b := .int (i : Nat)) rfl rfl (at_map eo)) rfl)) rfl (sAq_of p1 p2)))
    let M17 : Option LV := some (.dat (.bool SM.isEmpty))
    refine ⟨.bool SM.isEmpty, ev_e2 (a := .list SM) (b := .list []) eSM rfl rfl, R2 M14 M15 M16 M17 none, rfl, ?_⟩
    let ρ3 := shutR true (R2 M14 M15 M16 M17 none)
    have w0 : oTr (eVar 17) ρ3 = some SM.isEmpty := rfl
    have w1 : oB (e2 eqZ (eVar 15) (eC (.str (Str.ofString "moment")))) ρ3 = some (z == Str.ofString "moment") := ev_oB (ev_e2 (a := .str z) (b := .str (Str.ofString "moment")) rfl rfl (eqZ_str zok (by decide +kernel)))
    have no : ∀ c : Rho → Option Bool, c ρ3 = some false → (swIf (wP c) (swSeq (swAsg (.nm 18) (wP (eCall (gN 2 SFlt.f) (aCons (eVar 2) (aCons (eCall tupD (aCons (e2 addD (e2 addD (eVar 3) (eVar 16)) (eLst (aCons (e2 ixD (eVar 13) (eVar 14)) aNil))) aNil)) aNil))))) (swIf (wP (oNot (oB (eCall (gN 2 (sAq 4)) (aCons (eVar 18) (aCons (eTup (aCons (e2 addD (eCall lenD (aCons (eVar 3) aNil)) (eVar 14)) (aCons (eVar 15) aNil))) aNil)))))) (swRetL (eC (.bool false))) swNil)) swNil).w (R2 M14 M15 M16 M17 none) b6 fun o b1 => match o with | .nx ρ' => (swRetL (eCall (gN 2 (sAq 4)) (aCons (e2 ixD (eCall (gN 2 STh0.f) (aCons (eVar 2) (aCons (eCall (gN 1 STrm.f) (aCons (eCall tupD (aCons (e2 addD (eVar 3) (eVar 7)) aNil)) aNil)) aNil))) (e1 negD (eC (.int 1)))) (aCons (e2 ixD (eVar 6) (e1 negD (eC (.int 1)))) aNil)))).w ρ' b1 (fun o _ => o = .rt (.bool true)) | o => o = .rt (.bool true) := fun c hc => ⟨false, hc, fin M14 M15 M16 M17 none b6⟩
    cases hS : SM.isEmpty with
    | false => exact no _ ((ev_oAnd (b := false) (by rw [w0, hS])).trans rfl)
    | true =>
      cases hz : (z == Str.ofString "moment") with
      | false => exact no _ ((ev_oAnd (b := true) (by rw [w0, hS])).trans ((ev_oAnd (b := false) (by rw [w1, hz])).trans rfl))
      | true =>
        have hz2 : z = Str.ofString "moment" := eq_of_beq hz
        subst hz2
        obtain ⟨⟨ds, hds, hlen⟩, hmv⟩ := wrd_mom (us := ts ++ us.take k) hwk
        have w2 : oB (e2 eqZ (eCall lenD (aCons (e2 ixD (eVar 13) (eVar 14)) aNil)) (eC (.int 3))) ρ3 = some (decide (ds.length = 3)) := by
          have ed : e2 ixD (eVar 13) (eVar 14) ρ3 = some dk := ev_e2 (a := BT) (b := .int (k : Nat)) rfl rfl (by rw [he]; exact atI_nat hdk)
          have el : eCall lenD (aCons (e2 ixD (eVar 13) (eVar 14)) aNil) ρ3 = some (.int (ds.length : Int)) := by
            unfold eCall
            refine (congrArg (fun o : Option (List D) => o.bind lenD) (ev_cons (ds := []) ed rfl)).trans ?_
            rw [hds]
            rfl
          refine ev_oB (ev_e2 (b := .int 3) el rfl ((eq_ok (ok_int _).1 (ok_int _).1).trans ?_))
          have : ((ds.length : Int) == 3) = decide (ds.length = 3) := by
            rw [Bool.eq_iff_iff, beq_iff_eq, decide_eq_true_iff]
            omega
          rw [eqv_int, this]
        by_cases h3 : ds.length = 3
        rotate_left
        · exact no _ ((ev_oAnd (b := true) (by rw [w0, hS])).trans ((ev_oAnd (b := true) (by rw [w1, hz])).trans (w2.trans (by rw [decide_eq_false h3]))))
        have hmom := hmv ds hds h3
        have cK := hG.cat (kG.take k)
        let Y : List D := (rs ++ FN).map Rw.d ++ [dk]
        have takel : (os.take k).length = k := by rw [List.length_take]; omega
        have yl : (rs ++ FN).length = rs.length + k := by rw [List.length_append, List.length_map, takel]
        have wY : walkP X 0 [] Y = (some (rs.length + k, Str.ofString "moment"), ts ++ us.take k) := by
          rw [walk_app (GdI.toGd _ rfl cK).walk, List.length_map, yl, Nat.zero_add]
          unfold walkP
          rw [hmom]
        have gY : gq (.tuple Y) = true := by
          show (decide (Y.length ≤ 1000) && gqAll Y) = true
          rw [decide_eq_true (show Y.length ≤ 1000 by show ((rs ++ FN).map Rw.d ++ [dk]).length ≤ 1000; rw [List.length_append, List.length_map, yl, List.length_singleton]; omega)]
          refine gqAll.of fun d hd => ?_
          rcases List.mem_append.mp hd with hd | hd
          · obtain ⟨r, hr, rfl⟩ := List.mem_map.mp hd
            exact gq_rw (cK.pl hX r hr)
          · rw [List.mem_singleton.mp hd]
            rw [he] at gB
            exact (gq.two gB).2 dk (List.mem_of_getElem? hdk)
        have fY : fltP X (.tuple Y) = .tuple [.int ((rs.length + k : Nat) : Int), .str (Str.ofString "moment")] := by
          have hY : ∃ d0 ys, Y = d0 :: ys := by
            cases hY : Y with
            | nil => exact absurd (congrArg List.length hY) (by show ((rs ++ FN).map Rw.d ++ [dk]).length ≠ 0; simp)
            | cons d0 ys => exact ⟨d0, ys, rfl⟩
          obtain ⟨d0, ys, hY⟩ := hY
          rw [hY] at wY ⊢
          show fltD (walkP X 0 [] (d0 :: ys)).1 = _
          rw [wY]
          rfl
        let FD : D := .tuple [.int ((rs.length + k : Nat) : Int), .str (Str.ofString "moment")]
        have eFY : SFlt.f [X.d, .tuple Y] = some FD := (Sem.of (S := SFlt) (x := (X, .tuple Y)) ⟨hX, gY⟩).trans (congrArg some fY)
        refine ⟨true, (ev_oAnd (b := true) (by rw [w0, hS])).trans ((ev_oAnd (b := true) (by rw [w1, hz])).trans (w2.trans (by rw [decide_eq_true h3]))), ?_⟩
        have eY : eCall tupD (aCons (e2 addD (e2 addD (eVar 3) (eVar 16)) (eLst (aCons (e2 ixD (eVar 13) (eVar 14)) aNil))) aNil) ρ3 = some (.tuple Y) := by
          have e1 : eLst (aCons (e2 ixD (eVar 13) (eVar 14)) aNil) ρ3 = some (.list [dk]) := ev_lstX (ev_cons (ev_e2 (a := BT) (b := .int (k : Nat)) rfl rfl (by rw [he]; exact atI_nat hdk)) rfl) (by simp)
          have e2' : e2 addD (eVar 3) (eVar 16) ρ3 = some (.list ((rs ++ FN).map Rw.d)) := ev_e2 (a := .list L) (b := .list (FN.map Rw.d)) rfl rfl (by
            rw [add_lst (sz (by rw [ll, List.length_map, List.length_map, takel]; omega)), List.map_append])
          unfold eCall
          exact (congrArg (fun o : Option (List D) => o.bind tupD) (ev_cons (ds := []) (ev_e2 e2' e1 (add_lst (sz (by rw [List.length_map, yl, List.length_singleton]; omega)))) rfl)).trans rfl
        refine ⟨FD, ev_call (ds := [X.d, .tuple Y]) (ev_cons rfl (ev_cons eY rfl)) rfl eFY, R2 M14 M15 M16 M17 (some (.dat FD)), rfl, ?_⟩
        have dF : dpA 4 FD := by
          have : dpA 3 (fltP X (.tuple Y)) := flt_dp
          rw [fY] at this
          exact dpA3_4 this
        have eFD : eTup (aCons (e2 addD (eCall lenD (aCons (eVar 3) aNil)) (eVar 14)) (aCons (eVar 15) aNil)) (shutR true (R2 M14 M15 M16 M17 (some (.dat FD)))) = some FD := by
          refine (ev_tupX (ds := [.int ((L.length : Int) + (k : Int)), .str (Str.ofString "moment")]) (ev_cons rfl (ev_cons rfl rfl)) (by simp)).trans ?_
          rw [ll]
          show some (PyData.tuple [.int ((rs.length : Int) + (k : Int)), _]) = some (PyData.tuple [.int ((rs.length + k : Nat) : Int), _])
          rw [show ((rs.length : Int) + (k : Int)) = ((rs.length + k : Nat) : Int) by omega]
        refine ⟨false, ev_not (b := true) (ev_oB (ev_call (ds := [FD, FD]) (ev_cons rfl (ev_cons eFD rfl)) rfl (sAq_ok dF))), ?_⟩
        exact fin M14 M15 M16 M17 (some (.dat FD)) b6
end
end Dl
namespace Dl
open PySem PySem.Spec PyProof.Rows L2 Rt
theorem all_mk {l : PySem.W.OpenLaw} {w : World} {K : PySem.W.Frag} {h : Heap} {mg : Str → Option Value} {fa f0 f1 f2 f3 f4 f5 f6 f7 f8 f9 f10 f11 f12 f13 f14 f15 f16 f17 f18 f19 f20 f21 f22 f23 f24 f25 f26 f27 f28 f29 f30 f31 f32 f33 f34 f35 f36 f37 f38 f39 f40 f41 f42 f43 f44 : Addr} (X : K.In h) (G : h.Ns mainGlobals mg) (hfa : mg "law" = some (.ref fa))
    {od0 an0 od1 an1 od2 an2 od3 an3 od4 an4 od5 an5 od6 an6 od7 an7 od8 an8 od9 an9 od10 an10 od11 an11 od12 an12 od13 an13 od14 an14 od15 an15 od16 an16 od17 an17 od18 an18 od19 an19 od20 an20 od21 an21 od22 an22 od23 an23 od24 an24 od25 an25 od26 an26 od27 an27 od28 an28 od29 an29 od30 an30 od31 an31 od32 an32 od33 an33 od34 an34 od35 an35 od36 an36 od37 an37 od38 an38 od39 an39 od40 an40 od41 an41 od42 an42 od43 an43 od44 an44 : Option Addr} {sl0 sl1 sl2 sl3 sl4 sl5 sl6 sl7 sl8 sl9 sl10 sl11 sl12 sl13 sl14 sl15 sl16 sl17 sl18 sl19 sl20 sl21 sl22 sl23 sl24 sl25 sl26 sl27 sl28 sl29 sl30 sl31 sl32 sl33 sl34 sl35 sl36 sl37 sl38 sl39 sl40 sl41 sl42 sl43 sl44 : Array (Option Value)} {oc0 kV0 dc0 pm0 cd0 ct0 oc1 kV1 dc1 pm1 cd1 ct1 oc2 kV2 dc2 pm2 cd2 ct2 oc3 kV3 dc3 pm3 cd3 ct3 oc4 kV4 dc4 pm4 cd4 ct4 oc5 kV5 dc5 pm5 cd5 ct5 oc6 kV6 dc6 pm6 cd6 ct6 oc7 kV7 dc7 pm7 cd7 ct7 oc8 kV8 dc8 pm8 cd8 ct8 oc9 kV9 dc9 pm9 cd9 ct9 oc10 kV10 dc10 pm10 cd10 ct10 oc11 kV11 dc11 pm11 cd11 ct11 oc12 kV12 dc12 pm12 cd12 ct12 oc13 kV13 dc13 pm13 cd13 ct13 oc14 kV14 dc14 pm14 cd14 ct14 oc15 kV15 dc15 pm15 cd15 ct15 oc16 kV16 dc16 pm16 cd16 ct16 oc17 kV17 dc17 pm17 cd17 ct17 oc18 kV18 dc18 pm18 cd18 ct18 oc19 kV19 dc19 pm19 cd19 ct19 oc20 kV20 dc20 pm20 cd20 ct20 oc21 kV21 dc21 pm21 cd21 ct21 oc22 kV22 dc22 pm22 cd22 ct22 oc23 kV23 dc23 pm23 cd23 ct23 oc24 kV24 dc24 pm24 cd24 ct24 oc25 kV25 dc25 pm25 cd25 ct25 oc26 kV26 dc26 pm26 cd26 ct26 oc27 kV27 dc27 pm27 cd27 ct27 oc28 kV28 dc28 pm28 cd28 ct28 oc29 kV29 dc29 pm29 cd29 ct29 oc30 kV30 dc30 pm30 cd30 ct30 oc31 kV31 dc31 pm31 cd31 ct31 oc32 kV32 dc32 pm32 cd32 ct32 oc33 kV33 dc33 pm33 cd33 ct33 oc34 kV34 dc34 pm34 cd34 ct34 oc35 kV35 dc35 pm35 cd35 ct35 oc36 kV36 dc36 pm36 cd36 ct36 oc37 kV37 dc37 pm37 cd37 ct37 oc38 kV38 dc38 pm38 cd38 ct38 oc39 kV39 dc39 pm39 cd39 ct39 oc40 kV40 dc40 pm40 cd40 ct40 oc41 kV41 dc41 pm41 cd41 ct41 oc42 kV42 dc42 pm42 cd42 ct42 oc43 kV43 dc43 pm43 cd43 ct43 oc44 kV44 dc44 pm44 cd44 ct44 : Value}
    (a0 : PySem.W.nsIn K mainGlobals "is_number" = some (some (.ref f0))) (l0 : K.lookup f0 = some ⟨oc0, od0, .func (PySem.W.fnOf "is_number" "is_number" (defArgs s_is_number) (defBody s_is_number) (defScope s_is_number) .none kV0 dc0 pm0 an0 cd0 ct0), sl0⟩) (c0 : PySem.W.codeIn K cd0 "is_number" = true) (k0 : PySem.W.keepIn K (.ref f0) = true)
    (a1 : PySem.W.nsIn K mainGlobals "is_number_from" = some (some (.ref f1))) (l1 : K.lookup f1 = some ⟨oc1, od1, .func (PySem.W.fnOf "is_number_from" "is_number_from" (defArgs s_is_number_from) (defBody s_is_number_from) (defScope s_is_number_from) .none kV1 dc1 pm1 an1 cd1 ct1), sl1⟩) (c1 : PySem.W.codeIn K cd1 "is_number_from" = true) (k1 : PySem.W.keepIn K (.ref f1) = true)
    (a2 : PySem.W.nsIn K mainGlobals "is_row" = some (some (.ref f2))) (l2 : K.lookup f2 = some ⟨oc2, od2, .func (PySem.W.fnOf "is_row" "is_row" (defArgs s_is_row) (defBody s_is_row) (defScope s_is_row) .none kV2 dc2 pm2 an2 cd2 ct2), sl2⟩) (c2 : PySem.W.codeIn K cd2 "is_row" = true) (k2 : PySem.W.keepIn K (.ref f2) = true)
    (a3 : PySem.W.nsIn K mainGlobals "place_of" = some (some (.ref f3))) (l3 : K.lookup f3 = some ⟨oc3, od3, .func (PySem.W.fnOf "place_of" "place_of" (defArgs s_place_of) (defBody s_place_of) (defScope s_place_of) .none kV3 dc3 pm3 an3 cd3 ct3), sl3⟩) (c3 : PySem.W.codeIn K cd3 "place_of" = true) (k3 : PySem.W.keepIn K (.ref f3) = true)
    (a4 : PySem.W.nsIn K mainGlobals "brings" = some (some (.ref f4))) (l4 : K.lookup f4 = some ⟨oc4, od4, .func (PySem.W.fnOf "brings" "brings" (defArgs s_brings) (defBody s_brings) (defScope s_brings) .none kV4 dc4 pm4 an4 cd4 ct4), sl4⟩) (c4 : PySem.W.codeIn K cd4 "brings" = true) (k4 : PySem.W.keepIn K (.ref f4) = true)
    (a5 : PySem.W.nsIn K mainGlobals "opens" = some (some (.ref f5))) (l5 : K.lookup f5 = some ⟨oc5, od5, .func (PySem.W.fnOf "opens" "opens" (defArgs s_opens) (defBody s_opens) (defScope s_opens) .none kV5 dc5 pm5 an5 cd5 ct5), sl5⟩) (c5 : PySem.W.codeIn K cd5 "opens" = true) (k5 : PySem.W.keepIn K (.ref f5) = true)
    (a6 : PySem.W.nsIn K mainGlobals "bears" = some (some (.ref f6))) (l6 : K.lookup f6 = some ⟨oc6, od6, .func (PySem.W.fnOf "bears" "bears" (defArgs s_bears) (defBody s_bears) (defScope s_bears) .none kV6 dc6 pm6 an6 cd6 ct6), sl6⟩) (c6 : PySem.W.codeIn K cd6 "bears" = true) (k6 : PySem.W.keepIn K (.ref f6) = true)
    (a7 : PySem.W.nsIn K mainGlobals "is_brought_row" = some (some (.ref f7))) (l7 : K.lookup f7 = some ⟨oc7, od7, .func (PySem.W.fnOf "is_brought_row" "is_brought_row" (defArgs s_is_brought_row) (defBody s_is_brought_row) (defScope s_is_brought_row) .none kV7 dc7 pm7 an7 cd7 ct7), sl7⟩) (c7 : PySem.W.codeIn K cd7 "is_brought_row" = true) (k7 : PySem.W.keepIn K (.ref f7) = true)
    (a8 : PySem.W.nsIn K mainGlobals "is_made_row" = some (some (.ref f8))) (l8 : K.lookup f8 = some ⟨oc8, od8, .func (PySem.W.fnOf "is_made_row" "is_made_row" (defArgs s_is_made_row) (defBody s_is_made_row) (defScope s_is_made_row) .none kV8 dc8 pm8 an8 cd8 ct8), sl8⟩) (c8 : PySem.W.codeIn K cd8 "is_made_row" = true) (k8 : PySem.W.keepIn K (.ref f8) = true)
    (a9 : PySem.W.nsIn K mainGlobals "fits" = some (some (.ref f9))) (l9 : K.lookup f9 = some ⟨oc9, od9, .func (PySem.W.fnOf "fits" "fits" (defArgs s_fits) (defBody s_fits) (defScope s_fits) .none kV9 dc9 pm9 an9 cd9 ct9), sl9⟩) (c9 : PySem.W.codeIn K cd9 "fits" = true) (k9 : PySem.W.keepIn K (.ref f9) = true)
    (a10 : PySem.W.nsIn K mainGlobals "row_word" = some (some (.ref f10))) (l10 : K.lookup f10 = some ⟨oc10, od10, .func (PySem.W.fnOf "row_word" "row_word" (defArgs s_row_word) (defBody s_row_word) (defScope s_row_word) .none kV10 dc10 pm10 an10 cd10 ct10), sl10⟩) (c10 : PySem.W.codeIn K cd10 "row_word" = true) (k10 : PySem.W.keepIn K (.ref f10) = true)
    (a11 : PySem.W.nsIn K mainGlobals "thing_of" = some (some (.ref f11))) (l11 : K.lookup f11 = some ⟨oc11, od11, .func (PySem.W.fnOf "thing_of" "thing_of" (defArgs s_thing_of) (defBody s_thing_of) (defScope s_thing_of) .none kV11 dc11 pm11 an11 cd11 ct11), sl11⟩) (c11 : PySem.W.codeIn K cd11 "thing_of" = true) (k11 : PySem.W.keepIn K (.ref f11) = true)
    (a12 : PySem.W.nsIn K mainGlobals "followed" = some (some (.ref f12))) (l12 : K.lookup f12 = some ⟨oc12, od12, .func (PySem.W.fnOf "followed" "followed" (defArgs s_followed) (defBody s_followed) (defScope s_followed) .none kV12 dc12 pm12 an12 cd12 ct12), sl12⟩) (c12 : PySem.W.codeIn K cd12 "followed" = true) (k12 : PySem.W.keepIn K (.ref f12) = true)
    (a13 : PySem.W.nsIn K mainGlobals "paperfault" = some (some (.ref f13))) (l13 : K.lookup f13 = some ⟨oc13, od13, .func (PySem.W.fnOf "paperfault" "paperfault" (defArgs s_paperfault) (defBody s_paperfault) (defScope s_paperfault) .none kV13 dc13 pm13 an13 cd13 ct13), sl13⟩) (c13 : PySem.W.codeIn K cd13 "paperfault" = true) (k13 : PySem.W.keepIn K (.ref f13) = true)
    (a14 : PySem.W.nsIn K mainGlobals "things" = some (some (.ref f14))) (l14 : K.lookup f14 = some ⟨oc14, od14, .func (PySem.W.fnOf "things" "things" (defArgs s_things) (defBody s_things) (defScope s_things) .none kV14 dc14 pm14 an14 cd14 ct14), sl14⟩) (c14 : PySem.W.codeIn K cd14 "things" = true) (k14 : PySem.W.keepIn K (.ref f14) = true)
    (a15 : PySem.W.nsIn K mainGlobals "parts_of" = some (some (.ref f15))) (l15 : K.lookup f15 = some ⟨oc15, od15, .func (PySem.W.fnOf "parts_of" "parts_of" (defArgs s_parts_of) (defBody s_parts_of) (defScope s_parts_of) .none kV15 dc15 pm15 an15 cd15 ct15), sl15⟩) (c15 : PySem.W.codeIn K cd15 "parts_of" = true) (k15 : PySem.W.keepIn K (.ref f15) = true)
    (a16 : PySem.W.nsIn K mainGlobals "led_along" = some (some (.ref f16))) (l16 : K.lookup f16 = some ⟨oc16, od16, .func (PySem.W.fnOf "led_along" "led_along" (defArgs s_led_along) (defBody s_led_along) (defScope s_led_along) .none kV16 dc16 pm16 an16 cd16 ct16), sl16⟩) (c16 : PySem.W.codeIn K cd16 "led_along" = true) (k16 : PySem.W.keepIn K (.ref f16) = true)
    (a17 : PySem.W.nsIn K mainGlobals "rows_gone_back_to" = some (some (.ref f17))) (l17 : K.lookup f17 = some ⟨oc17, od17, .func (PySem.W.fnOf "rows_gone_back_to" "rows_gone_back_to" (defArgs s_rows_gone_back_to) (defBody s_rows_gone_back_to) (defScope s_rows_gone_back_to) .none kV17 dc17 pm17 an17 cd17 ct17), sl17⟩) (c17 : PySem.W.codeIn K cd17 "rows_gone_back_to" = true) (k17 : PySem.W.keepIn K (.ref f17) = true)
    (a18 : PySem.W.nsIn K mainGlobals "trimmed" = some (some (.ref f18))) (l18 : K.lookup f18 = some ⟨oc18, od18, .func (PySem.W.fnOf "trimmed" "trimmed" (defArgs s_trimmed) (defBody s_trimmed) (defScope s_trimmed) .none kV18 dc18 pm18 an18 cd18 ct18), sl18⟩) (c18 : PySem.W.codeIn K cd18 "trimmed" = true) (k18 : PySem.W.keepIn K (.ref f18) = true)
    (a19 : PySem.W.nsIn K mainGlobals "_law_draws" = some (some (.ref f19))) (l19 : K.lookup f19 = some ⟨oc19, od19, .func (PySem.W.fnOf "_law_draws" "_law_draws" (defArgs s_law_draws) (defBody s_law_draws) (defScope s_law_draws) .none kV19 dc19 pm19 an19 cd19 ct19), sl19⟩) (c19 : PySem.W.codeIn K cd19 "_law_draws" = true) (k19 : PySem.W.keepIn K (.ref f19) = true)
    (a20 : PySem.W.nsIn K mainGlobals "_law_next" = some (some (.ref f20))) (l20 : K.lookup f20 = some ⟨oc20, od20, .func (PySem.W.fnOf "_law_next" "_law_next" (defArgs s_law_next) (defBody s_law_next) (defScope s_law_next) .none kV20 dc20 pm20 an20 cd20 ct20), sl20⟩) (c20 : PySem.W.codeIn K cd20 "_law_next" = true) (k20 : PySem.W.keepIn K (.ref f20) = true)
    (a21 : PySem.W.nsIn K mainGlobals "_law_one" = some (some (.ref f21))) (l21 : K.lookup f21 = some ⟨oc21, od21, .func (PySem.W.fnOf "_law_one" "_law_one" (defArgs s_law_one) (defBody s_law_one) (defScope s_law_one) .none kV21 dc21 pm21 an21 cd21 ct21), sl21⟩) (c21 : PySem.W.codeIn K cd21 "_law_one" = true) (k21 : PySem.W.keepIn K (.ref f21) = true)
    (a22 : PySem.W.nsIn K mainGlobals "_law_kinds" = some (some (.ref f22))) (l22 : K.lookup f22 = some ⟨oc22, od22, .func (PySem.W.fnOf "_law_kinds" "_law_kinds" (defArgs s_law_kinds) (defBody s_law_kinds) (defScope s_law_kinds) .none kV22 dc22 pm22 an22 cd22 ct22), sl22⟩) (c22 : PySem.W.codeIn K cd22 "_law_kinds" = true) (k22 : PySem.W.keepIn K (.ref f22) = true)
    (a23 : PySem.W.nsIn K mainGlobals "_law_source" = some (some (.ref f23))) (l23 : K.lookup f23 = some ⟨oc23, od23, .func (PySem.W.fnOf "_law_source" "_law_source" (defArgs s_law_source) (defBody s_law_source) (defScope s_law_source) .none kV23 dc23 pm23 an23 cd23 ct23), sl23⟩) (c23 : PySem.W.codeIn K cd23 "_law_source" = true) (k23 : PySem.W.keepIn K (.ref f23) = true)
    (a24 : PySem.W.nsIn K mainGlobals "_law_part" = some (some (.ref f24))) (l24 : K.lookup f24 = some ⟨oc24, od24, .func (PySem.W.fnOf "_law_part" "_law_part" (defArgs s_law_part) (defBody s_law_part) (defScope s_law_part) .none kV24 dc24 pm24 an24 cd24 ct24), sl24⟩) (c24 : PySem.W.codeIn K cd24 "_law_part" = true) (k24 : PySem.W.keepIn K (.ref f24) = true)
    (a25 : PySem.W.nsIn K mainGlobals "_law_way" = some (some (.ref f25))) (l25 : K.lookup f25 = some ⟨oc25, od25, .func (PySem.W.fnOf "_law_way" "_law_way" (defArgs s_law_way) (defBody s_law_way) (defScope s_law_way) .none kV25 dc25 pm25 an25 cd25 ct25), sl25⟩) (c25 : PySem.W.codeIn K cd25 "_law_way" = true) (k25 : PySem.W.keepIn K (.ref f25) = true)
    (a26 : PySem.W.nsIn K mainGlobals "_law_world" = some (some (.ref f26))) (l26 : K.lookup f26 = some ⟨oc26, od26, .func (PySem.W.fnOf "_law_world" "_law_world" (defArgs s_law_world) (defBody s_law_world) (defScope s_law_world) .none kV26 dc26 pm26 an26 cd26 ct26), sl26⟩) (c26 : PySem.W.codeIn K cd26 "_law_world" = true) (k26 : PySem.W.keepIn K (.ref f26) = true)
    (a27 : PySem.W.nsIn K mainGlobals "_law_odd" = some (some (.ref f27))) (l27 : K.lookup f27 = some ⟨oc27, od27, .func (PySem.W.fnOf "_law_odd" "_law_odd" (defArgs s_law_odd) (defBody s_law_odd) (defScope s_law_odd) .none kV27 dc27 pm27 an27 cd27 ct27), sl27⟩) (c27 : PySem.W.codeIn K cd27 "_law_odd" = true) (k27 : PySem.W.keepIn K (.ref f27) = true)
    (a28 : PySem.W.nsIn K mainGlobals "_law_spoilt" = some (some (.ref f28))) (l28 : K.lookup f28 = some ⟨oc28, od28, .func (PySem.W.fnOf "_law_spoilt" "_law_spoilt" (defArgs s_law_spoilt) (defBody s_law_spoilt) (defScope s_law_spoilt) .none kV28 dc28 pm28 an28 cd28 ct28), sl28⟩) (c28 : PySem.W.codeIn K cd28 "_law_spoilt" = true) (k28 : PySem.W.keepIn K (.ref f28) = true)
    (a29 : PySem.W.nsIn K mainGlobals "_law_first" = some (some (.ref f29))) (l29 : K.lookup f29 = some ⟨oc29, od29, .func (PySem.W.fnOf "_law_first" "_law_first" (defArgs s_law_first) (defBody s_law_first) (defScope s_law_first) .none kV29 dc29 pm29 an29 cd29 ct29), sl29⟩) (c29 : PySem.W.codeIn K cd29 "_law_first" = true) (k29 : PySem.W.keepIn K (.ref f29) = true)
    (a30 : PySem.W.nsIn K mainGlobals "_law_fits" = some (some (.ref f30))) (l30 : K.lookup f30 = some ⟨oc30, od30, .func (PySem.W.fnOf "_law_fits" "_law_fits" (defArgs s_law_fits) (defBody s_law_fits) (defScope s_law_fits) .none kV30 dc30 pm30 an30 cd30 ct30), sl30⟩) (c30 : PySem.W.codeIn K cd30 "_law_fits" = true) (k30 : PySem.W.keepIn K (.ref f30) = true)
    (a31 : PySem.W.nsIn K mainGlobals "_law_born" = some (some (.ref f31))) (l31 : K.lookup f31 = some ⟨oc31, od31, .func (PySem.W.fnOf "_law_born" "_law_born" (defArgs s_law_born) (defBody s_law_born) (defScope s_law_born) .none kV31 dc31 pm31 an31 cd31 ct31), sl31⟩) (c31 : PySem.W.codeIn K cd31 "_law_born" = true) (k31 : PySem.W.keepIn K (.ref f31) = true)
    (a32 : PySem.W.nsIn K mainGlobals "_law_fresh" = some (some (.ref f32))) (l32 : K.lookup f32 = some ⟨oc32, od32, .func (PySem.W.fnOf "_law_fresh" "_law_fresh" (defArgs s_law_fresh) (defBody s_law_fresh) (defScope s_law_fresh) .none kV32 dc32 pm32 an32 cd32 ct32), sl32⟩) (c32 : PySem.W.codeIn K cd32 "_law_fresh" = true) (k32 : PySem.W.keepIn K (.ref f32) = true)
    (a33 : PySem.W.nsIn K mainGlobals "_law_parts" = some (some (.ref f33))) (l33 : K.lookup f33 = some ⟨oc33, od33, .func (PySem.W.fnOf "_law_parts" "_law_parts" (defArgs s_law_parts) (defBody s_law_parts) (defScope s_law_parts) .none kV33 dc33 pm33 an33 cd33 ct33), sl33⟩) (c33 : PySem.W.codeIn K cd33 "_law_parts" = true) (k33 : PySem.W.keepIn K (.ref f33) = true)
    (a34 : PySem.W.nsIn K mainGlobals "_law_paper" = some (some (.ref f34))) (l34 : K.lookup f34 = some ⟨oc34, od34, .func (PySem.W.fnOf "_law_paper" "_law_paper" (defArgs s_law_paper) (defBody s_law_paper) (defScope s_law_paper) .none kV34 dc34 pm34 an34 cd34 ct34), sl34⟩) (c34 : PySem.W.codeIn K cd34 "_law_paper" = true) (k34 : PySem.W.keepIn K (.ref f34) = true)
    (a35 : PySem.W.nsIn K mainGlobals "_law_is" = some (some (.ref f35))) (l35 : K.lookup f35 = some ⟨oc35, od35, .func (PySem.W.fnOf "_law_is" "_law_is" (defArgs s_law_is) (defBody s_law_is) (defScope s_law_is) .none kV35 dc35 pm35 an35 cd35 ct35), sl35⟩) (c35 : PySem.W.codeIn K cd35 "_law_is" = true) (k35 : PySem.W.keepIn K (.ref f35) = true)
    (a36 : PySem.W.nsIn K mainGlobals "_law_is_row" = some (some (.ref f36))) (l36 : K.lookup f36 = some ⟨oc36, od36, .func (PySem.W.fnOf "_law_is_row" "_law_is_row" (defArgs s_law_is_row) (defBody s_law_is_row) (defScope s_law_is_row) .none kV36 dc36 pm36 an36 cd36 ct36), sl36⟩) (c36 : PySem.W.codeIn K cd36 "_law_is_row" = true) (k36 : PySem.W.keepIn K (.ref f36) = true)
    (a37 : PySem.W.nsIn K mainGlobals "_law_row_word" = some (some (.ref f37))) (l37 : K.lookup f37 = some ⟨oc37, od37, .func (PySem.W.fnOf "_law_row_word" "_law_row_word" (defArgs s_law_row_word) (defBody s_law_row_word) (defScope s_law_row_word) .none kV37 dc37 pm37 an37 cd37 ct37), sl37⟩) (c37 : PySem.W.codeIn K cd37 "_law_row_word" = true) (k37 : PySem.W.keepIn K (.ref f37) = true)
    (a38 : PySem.W.nsIn K mainGlobals "_law_looked" = some (some (.ref f38))) (l38 : K.lookup f38 = some ⟨oc38, od38, .func (PySem.W.fnOf "_law_looked" "_law_looked" (defArgs s_law_looked) (defBody s_law_looked) (defScope s_law_looked) .none kV38 dc38 pm38 an38 cd38 ct38), sl38⟩) (c38 : PySem.W.codeIn K cd38 "_law_looked" = true) (k38 : PySem.W.keepIn K (.ref f38) = true)
    (a39 : PySem.W.nsIn K mainGlobals "_law_bent_paper" = some (some (.ref f39))) (l39 : K.lookup f39 = some ⟨oc39, od39, .func (PySem.W.fnOf "_law_bent_paper" "_law_bent_paper" (defArgs s_law_bent_paper) (defBody s_law_bent_paper) (defScope s_law_bent_paper) .none kV39 dc39 pm39 an39 cd39 ct39), sl39⟩) (c39 : PySem.W.codeIn K cd39 "_law_bent_paper" = true) (k39 : PySem.W.keepIn K (.ref f39) = true)
    (a40 : PySem.W.nsIn K mainGlobals "_law_alike" = some (some (.ref f40))) (l40 : K.lookup f40 = some ⟨oc40, od40, .func (PySem.W.fnOf "_law_alike" "_law_alike" (defArgs s_law_alike) (defBody s_law_alike) (defScope s_law_alike) .none kV40 dc40 pm40 an40 cd40 ct40), sl40⟩) (c40 : PySem.W.codeIn K cd40 "_law_alike" = true) (k40 : PySem.W.keepIn K (.ref f40) = true)
    (a41 : PySem.W.nsIn K mainGlobals "_law_led" = some (some (.ref f41))) (l41 : K.lookup f41 = some ⟨oc41, od41, .func (PySem.W.fnOf "_law_led" "_law_led" (defArgs s_law_led) (defBody s_law_led) (defScope s_law_led) .none kV41 dc41 pm41 an41 cd41 ct41), sl41⟩) (c41 : PySem.W.codeIn K cd41 "_law_led" = true) (k41 : PySem.W.keepIn K (.ref f41) = true)
    (a42 : PySem.W.nsIn K mainGlobals "_law_any_of" = some (some (.ref f42))) (l42 : K.lookup f42 = some ⟨oc42, od42, .func (PySem.W.fnOf "_law_any_of" "_law_any_of" (defArgs s_law_any_of) (defBody s_law_any_of) (defScope s_law_any_of) .none kV42 dc42 pm42 an42 cd42 ct42), sl42⟩) (c42 : PySem.W.codeIn K cd42 "_law_any_of" = true) (k42 : PySem.W.keepIn K (.ref f42) = true)
    (a43 : PySem.W.nsIn K mainGlobals "_law_mixed" = some (some (.ref f43))) (l43 : K.lookup f43 = some ⟨oc43, od43, .func (PySem.W.fnOf "_law_mixed" "_law_mixed" (defArgs s_law_mixed) (defBody s_law_mixed) (defScope s_law_mixed) .none kV43 dc43 pm43 an43 cd43 ct43), sl43⟩) (c43 : PySem.W.codeIn K cd43 "_law_mixed" = true) (k43 : PySem.W.keepIn K (.ref f43) = true)
    (a44 : PySem.W.nsIn K mainGlobals "law" = some (some (.ref f44))) (l44 : K.lookup f44 = some ⟨oc44, od44, .func (PySem.W.fnOf "law" "law" (defArgs s_law) (defBody s_law) (defScope s_law) .none kV44 dc44 pm44 an44 cd44 ct44), sl44⟩) (c44 : PySem.W.codeIn K cd44 "law" = true) (k44 : PySem.W.keepIn K (.ref f44) = true)
    (z_isinstance : PySem.W.nsIn K mainGlobals "isinstance" = some none)
    (z_int : PySem.W.nsIn K mainGlobals "int" = some none)
    (z_bool : PySem.W.nsIn K mainGlobals "bool" = some none)
    (z_tuple : PySem.W.nsIn K mainGlobals "tuple" = some none)
    (z_len : PySem.W.nsIn K mainGlobals "len" = some none)
    (z_min : PySem.W.nsIn K mainGlobals "min" = some none)
    (z_max : PySem.W.nsIn K mainGlobals "max" = some none)
    (z_all : PySem.W.nsIn K mainGlobals "all" = some none)
    (z_zip : PySem.W.nsIn K mainGlobals "zip" = some none)
    (z_enumerate : PySem.W.nsIn K mainGlobals "enumerate" = some none)
    (z_range : PySem.W.nsIn K mainGlobals "range" = some none)
    (z_list : PySem.W.nsIn K mainGlobals "list" = some none)
    (z_sorted : PySem.W.nsIn K mainGlobals "sorted" = some none)
    (z_str : PySem.W.nsIn K mainGlobals "str" = some none)
    {t_LAST : Tok} (y_LAST : PySem.W.nsIn K mainGlobals "LAST" = some (some (.int 3000000000000000 t_LAST)))
    : ∃ fd : FuncData, (∀ (s : Shared) (v : Value), BindsTo s fd ⟨[v], []⟩ [("_law_script", v)]) ∧ ∀ base : Heap, K.In base → base.Ns mainGlobals mg → (∃ o, base.get? sysModules = some o) → FnG l.prog w K mg base 17 fa fd ["_law_script"] (spLaw K) := by
  have e := hfa.symm.trans (PySem.W.mg_of X G a44)
  cases e
  have F0 := fun_mk (st := s_is_number) l0 c0 k0
  have b0 := F0.binds (ps := ["thing"]) fun _ _ _ _ _ _ us hl => match us, hl with | [_], _ => rfl
  have g0 := PySem.W.mg_of X G a0
  have F1 := fun_mk (st := s_is_number_from) l1 c1 k1
  have b1 := F1.binds (ps := ["thing", "low", "high"]) fun _ _ _ _ _ _ us hl => match us, hl with | [_, _, _], _ => rfl
  have g1 := PySem.W.mg_of X G a1
  have F2 := fun_mk (st := s_is_row) l2 c2 k2
  have b2 := F2.binds (ps := ["thing", "fewest", "most"]) fun _ _ _ _ _ _ us hl => match us, hl with | [_, _, _], _ => rfl
  have g2 := PySem.W.mg_of X G a2
  have F3 := fun_mk (st := s_place_of) l3 c3 k3
  have b3 := F3.binds (ps := ["world", "number"]) fun _ _ _ _ _ _ us hl => match us, hl with | [_, _], _ => rfl
  have g3 := PySem.W.mg_of X G a3
  have F4 := fun_mk (st := s_brings) l4 c4 k4
  have b4 := F4.binds (ps := ["world", "source", "moment"]) fun _ _ _ _ _ _ us hl => match us, hl with | [_, _, _], _ => rfl
  have g4 := PySem.W.mg_of X G a4
  have F5 := fun_mk (st := s_opens) l5 c5 k5
  have b5 := F5.binds (ps := ["world", "way", "moment"]) fun _ _ _ _ _ _ us hl => match us, hl with | [_, _, _], _ => rfl
  have g5 := PySem.W.mg_of X G a5
  have F6 := fun_mk (st := s_bears) l6 c6 k6
  have b6 := F6.binds (ps := ["world", "way", "moment", "origins"]) fun _ _ _ _ _ _ us hl => match us, hl with | [_, _, _, _], _ => rfl
  have g6 := PySem.W.mg_of X G a6
  have F7 := fun_mk (st := s_is_brought_row) l7 c7 k7
  have b7 := F7.binds (ps := ["world", "row"]) fun _ _ _ _ _ _ us hl => match us, hl with | [_, _], _ => rfl
  have g7 := PySem.W.mg_of X G a7
  have F8 := fun_mk (st := s_is_made_row) l8 c8 k8
  have b8 := F8.binds (ps := ["world", "ahead", "row"]) fun _ _ _ _ _ _ us hl => match us, hl with | [_, _, _], _ => rfl
  have g8 := PySem.W.mg_of X G a8
  have F9 := fun_mk (st := s_fits) l9 c9 k9
  have b9 := F9.binds (ps := ["window", "thing", "moment"]) fun _ _ _ _ _ _ us hl => match us, hl with | [_, _, _], _ => rfl
  have g9 := PySem.W.mg_of X G a9
  have F10 := fun_mk (st := s_row_word) l10 c10 k10
  have b10 := F10.binds (ps := ["world", "told", "row"]) fun _ _ _ _ _ _ us hl => match us, hl with | [_, _, _], _ => rfl
  have g10 := PySem.W.mg_of X G a10
  have F11 := fun_mk (st := s_thing_of) l11 c11 k11
  have b11 := F11.binds (ps := ["world", "told", "row"]) fun _ _ _ _ _ _ us hl => match us, hl with | [_, _, _], _ => rfl
  have g11 := PySem.W.mg_of X G a11
  have F12 := fun_mk (st := s_followed) l12 c12 k12
  have b12 := F12.binds (ps := ["world", "thing"]) fun _ _ _ _ _ _ us hl => match us, hl with | [_, _], _ => rfl
  have g12 := PySem.W.mg_of X G a12
  have F13 := fun_mk (st := s_paperfault) l13 c13 k13
  have b13 := F13.binds (ps := ["world", "thing"]) fun _ _ _ _ _ _ us hl => match us, hl with | [_, _], _ => rfl
  have g13 := PySem.W.mg_of X G a13
  have F14 := fun_mk (st := s_things) l14 c14 k14
  have b14 := F14.binds (ps := ["world", "paper"]) fun _ _ _ _ _ _ us hl => match us, hl with | [_, _], _ => rfl
  have g14 := PySem.W.mg_of X G a14
  have F15 := fun_mk (st := s_parts_of) l15 c15 k15
  have b15 := F15.binds (ps := ["row"]) fun _ _ _ _ _ _ us hl => match us, hl with | [_], _ => rfl
  have g15 := PySem.W.mg_of X G a15
  have F16 := fun_mk (st := s_led_along) l16 c16 k16
  have b16 := F16.binds (ps := ["row", "numbers"]) fun _ _ _ _ _ _ us hl => match us, hl with | [_, _], _ => rfl
  have g16 := PySem.W.mg_of X G a16
  have F17 := fun_mk (st := s_rows_gone_back_to) l17 c17 k17
  have b17 := F17.binds (ps := ["paper"]) fun _ _ _ _ _ _ us hl => match us, hl with | [_], _ => rfl
  have g17 := PySem.W.mg_of X G a17
  have F18 := fun_mk (st := s_trimmed) l18 c18 k18
  have b18 := F18.binds (ps := ["paper"]) fun _ _ _ _ _ _ us hl => match us, hl with | [_], _ => rfl
  have g18 := PySem.W.mg_of X G a18
  have F19 := fun_mk (st := s_law_draws) l19 c19 k19
  have b19 := F19.binds (ps := ["_law_script"]) fun _ _ _ _ _ _ us hl => match us, hl with | [_], _ => rfl
  have g19 := PySem.W.mg_of X G a19
  have F20 := fun_mk (st := s_law_next) l20 c20 k20
  have b20 := F20.binds (ps := ["_law_drawn", "_law_below"]) fun _ _ _ _ _ _ us hl => match us, hl with | [_, _], _ => rfl
  have g20 := PySem.W.mg_of X G a20
  have F21 := fun_mk (st := s_law_one) l21 c21 k21
  have b21 := F21.binds (ps := ["_law_drawn", "_law_wares"]) fun _ _ _ _ _ _ us hl => match us, hl with | [_, _], _ => rfl
  have g21 := PySem.W.mg_of X G a21
  have F22 := fun_mk (st := s_law_kinds) l22 c22 k22
  have b22 := F22.binds (ps := ["_law_drawn", "_law_many"]) fun _ _ _ _ _ _ us hl => match us, hl with | [_, _], _ => rfl
  have g22 := PySem.W.mg_of X G a22
  have F23 := fun_mk (st := s_law_source) l23 c23 k23
  have b23 := F23.binds (ps := ["_law_drawn", "_law_size", "_law_kinds_here", "_law_old"]) fun _ _ _ _ _ _ us hl => match us, hl with | [_, _, _, _], _ => rfl
  have g23 := PySem.W.mg_of X G a23
  have F24 := fun_mk (st := s_law_part) l24 c24 k24
  have b24 := F24.binds (ps := ["_law_drawn", "_law_kinds_here", "_law_old"]) fun _ _ _ _ _ _ us hl => match us, hl with | [_, _, _], _ => rfl
  have g24 := PySem.W.mg_of X G a24
  have F25 := fun_mk (st := s_law_way) l25 c25 k25
  have b25 := F25.binds (ps := ["_law_drawn", "_law_size", "_law_kinds_here", "_law_old"]) fun _ _ _ _ _ _ us hl => match us, hl with | [_, _, _, _], _ => rfl
  have g25 := PySem.W.mg_of X G a25
  have F26 := fun_mk (st := s_law_world) l26 c26 k26
  have b26 := F26.binds (ps := ["_law_drawn", "_law_wide", "_law_old"]) fun _ _ _ _ _ _ us hl => match us, hl with | [_, _, _], _ => rfl
  have g26 := PySem.W.mg_of X G a26
  have F27 := fun_mk (st := s_law_odd) l27 c27 k27
  have b27 := F27.binds (ps := ["_law_drawn"]) fun _ _ _ _ _ _ us hl => match us, hl with | [_], _ => rfl
  have g27 := PySem.W.mg_of X G a27
  have F28 := fun_mk (st := s_law_spoilt) l28 c28 k28
  have b28 := F28.binds (ps := ["_law_drawn", "_law_thing"]) fun _ _ _ _ _ _ us hl => match us, hl with | [_, _], _ => rfl
  have g28 := PySem.W.mg_of X G a28
  have F29 := fun_mk (st := s_law_first) l29 c29 k29
  have b29 := F29.binds (ps := ["_law_world_here", "_law_number"]) fun _ _ _ _ _ _ us hl => match us, hl with | [_, _], _ => rfl
  have g29 := PySem.W.mg_of X G a29
  have F30 := fun_mk (st := s_law_fits) l30 c30 k30
  have b30 := F30.binds (ps := ["_law_part_here", "_law_thing", "_law_moment"]) fun _ _ _ _ _ _ us hl => match us, hl with | [_, _, _], _ => rfl
  have g30 := PySem.W.mg_of X G a30
  have F31 := fun_mk (st := s_law_born) l31 c31 k31
  have b31 := F31.binds (ps := ["_law_world_here", "_law_row", "_law_found"]) fun _ _ _ _ _ _ us hl => match us, hl with | [_, _, _], _ => rfl
  have g31 := PySem.W.mg_of X G a31
  have F32 := fun_mk (st := s_law_fresh) l32 c32 k32
  have b32 := F32.binds (ps := ["_law_world_here", "_law_part_here", "_law_moment"]) fun _ _ _ _ _ _ us hl => match us, hl with | [_, _, _], _ => rfl
  have g32 := PySem.W.mg_of X G a32
  have F33 := fun_mk (st := s_law_parts) l33 c33 k33
  have b33 := F33.binds (ps := ["_law_drawn", "_law_world_here", "_law_way_here", "_law_moment", "_law_paper_here"]) fun _ _ _ _ _ _ us hl => match us, hl with | [_, _, _, _, _], _ => rfl
  have g33 := PySem.W.mg_of X G a33
  have F34 := fun_mk (st := s_law_paper) l34 c34 k34
  have b34 := F34.binds (ps := ["_law_drawn", "_law_world_here", "_law_many"]) fun _ _ _ _ _ _ us hl => match us, hl with | [_, _, _], _ => rfl
  have g34 := PySem.W.mg_of X G a34
  have F35 := fun_mk (st := s_law_is) l35 c35 k35
  have b35 := F35.binds (ps := ["_law_thing", "_law_low", "_law_high"]) fun _ _ _ _ _ _ us hl => match us, hl with | [_, _, _], _ => rfl
  have g35 := PySem.W.mg_of X G a35
  have F36 := fun_mk (st := s_law_is_row) l36 c36 k36
  have b36 := F36.binds (ps := ["_law_world_here", "_law_row", "_law_ahead"]) fun _ _ _ _ _ _ us hl => match us, hl with | [_, _, _], _ => rfl
  have g36 := PySem.W.mg_of X G a36
  have F37 := fun_mk (st := s_law_row_word) l37 c37 k37
  have b37 := F37.binds (ps := ["_law_world_here", "_law_row", "_law_found"]) fun _ _ _ _ _ _ us hl => match us, hl with | [_, _, _], _ => rfl
  have g37 := PySem.W.mg_of X G a37
  have F38 := fun_mk (st := s_law_looked) l38 c38 k38
  have b38 := F38.binds (ps := ["_law_world_here", "_law_thing"]) fun _ _ _ _ _ _ us hl => match us, hl with | [_, _], _ => rfl
  have g38 := PySem.W.mg_of X G a38
  have F39 := fun_mk (st := s_law_bent_paper) l39 c39 k39
  have b39 := F39.binds (ps := ["_law_drawn", "_law_rows"]) fun _ _ _ _ _ _ us hl => match us, hl with | [_, _], _ => rfl
  have g39 := PySem.W.mg_of X G a39
  have F40 := fun_mk (st := s_law_alike) l40 c40 k40
  have b40 := F40.binds (ps := ["_law_one_here", "_law_other"]) fun _ _ _ _ _ _ us hl => match us, hl with | [_, _], _ => rfl
  have g40 := PySem.W.mg_of X G a40
  have F41 := fun_mk (st := s_law_led) l41 c41 k41
  have b41 := F41.binds (ps := ["_law_rows", "_law_names"]) fun _ _ _ _ _ _ us hl => match us, hl with | [_, _], _ => rfl
  have g41 := PySem.W.mg_of X G a41
  have F42 := fun_mk (st := s_law_any_of) l42 c42 k42
  have b42 := F42.binds (ps := ["_law_some", "_law_left"]) fun _ _ _ _ _ _ us hl => match us, hl with | [_, _], _ => rfl
  have g42 := PySem.W.mg_of X G a42
  have F43 := fun_mk (st := s_law_mixed) l43 c43 k43
  have b43 := F43.binds (ps := ["_law_drawn", "_law_rows"]) fun _ _ _ _ _ _ us hl => match us, hl with | [_, _], _ => rfl
  have g43 := PySem.W.mg_of X G a43
  have F44 := fun_mk (st := s_law) l44 c44 k44
  have b44 := F44.binds (ps := ["_law_script"]) fun _ _ _ _ _ _ us hl => match us, hl with | [_], _ => rfl
  have g44 := PySem.W.mg_of X G a44
  have m_isinstance := PySem.W.mg_none_of X G z_isinstance
  have m_int := PySem.W.mg_none_of X G z_int
  have m_bool := PySem.W.mg_none_of X G z_bool
  have m_tuple := PySem.W.mg_none_of X G z_tuple
  have m_len := PySem.W.mg_none_of X G z_len
  have m_min := PySem.W.mg_none_of X G z_min
  have m_max := PySem.W.mg_none_of X G z_max
  have m_all := PySem.W.mg_none_of X G z_all
  have m_zip := PySem.W.mg_none_of X G z_zip
  have m_enumerate := PySem.W.mg_none_of X G z_enumerate
  have m_range := PySem.W.mg_none_of X G z_range
  have m_list := PySem.W.mg_none_of X G z_list
  have m_sorted := PySem.W.mg_none_of X G z_sorted
  have m_str := PySem.W.mg_none_of X G z_str
  have g_LAST := PySem.W.mg_of X G y_LAST
  refine ⟨PySem.W.fnOf "law" "law" (defArgs s_law) (defBody s_law) (defScope s_law) .none kV44 dc44 pm44 an44 cd44 ct44, fun s v => .of_eq rfl, fun base _ _ hB => ?_⟩
  have C0 : Cl l.prog w K mg base 1 "is_number" ["thing"] (spD 1 sNum) := ⟨f0, _, ok_num F0 m_isinstance m_int m_bool, g0, F0.kp, b0⟩
  have C1 : Cl l.prog w K mg base 2 "is_number_from" ["thing", "low", "high"] (spD 3 sFrom) := ⟨f1, _, ok_from F1 C0, g1, F1.kp, b1⟩
  have C2 : Cl l.prog w K mg base 1 "is_row" ["thing", "fewest", "most"] (spD 3 sRow) := ⟨f2, _, ok_row F2 m_isinstance m_tuple m_len, g2, F2.kp, b2⟩
  have C3 : Cl l.prog w K mg base 1 "place_of" ["world", "number"] (spD 2 sPlace) := ⟨f3, _, ok_place F3, g3, F3.kp, b3⟩
  have C4 : Cl l.prog w K mg base 2 "brings" ["world", "source", "moment"] (spD 3 SBri.f) := ⟨f4, _, ok_brings F4 C3, g4, F4.kp, b4⟩
  have C5 : Cl l.prog w K mg base 2 "opens" ["world", "way", "moment"] (spD 3 SOpn.f) := ⟨f5, _, ok_opens F5 C3, g5, F5.kp, b5⟩
  have C6 : Cl l.prog w K mg base 1 "bears" ["world", "way", "moment", "origins"] (spD 4 SBea.f) := ⟨f6, _, ok_bears F6 m_min m_max, g6, F6.kp, b6⟩
  have C7 : Cl l.prog w K mg base 3 "is_brought_row" ["world", "row"] (spD 2 SBrR.f) := ⟨f7, _, ok_brR F7 g_LAST m_len C2 C1, g7, F7.kp, b7⟩
  have C8 : Cl l.prog w K mg base 3 "is_made_row" ["world", "ahead", "row"] (spD 3 SMdR.f) := ⟨f8, _, ok_mdR F8 g_LAST m_len m_all C2 C1, g8, F8.kp, b8⟩
  have C9 : Cl l.prog w K mg base 1 "fits" ["window", "thing", "moment"] (spD 3 SFit.f) := ⟨f9, _, ok_fits F9, g9, F9.kp, b9⟩
  have C10 : Cl l.prog w K mg base 4 "row_word" ["world", "told", "row"] (spD 3 SWrd.f) := ⟨f10, _, ok_word F10 m_len m_all m_zip C7 C4 C8 C5 C9, g10, F10.kp, b10⟩
  have C11 : Cl l.prog w K mg base 2 "thing_of" ["world", "told", "row"] (spD 3 SThg.f) := ⟨f11, _, ok_thing F11 C6, g11, F11.kp, b11⟩
  have C12 : Cl l.prog w K mg base 5 "followed" ["world", "thing"] (spD 2 SFol.f) := ⟨f12, _, ok_fol F12 m_isinstance m_tuple m_enumerate C10 C11, g12, F12.kp, b12⟩
  have C13 : Cl l.prog w K mg base 6 "paperfault" ["world", "thing"] (spD 2 SFlt.f) := ⟨f13, _, ok_flt F13 C12, g13, F13.kp, b13⟩
  have C14 : Cl l.prog w K mg base 6 "things" ["world", "paper"] (spD 2 STh0.f) := ⟨f14, _, ok_things0 F14 m_tuple C12, g14, F14.kp, b14⟩
  have C15 : Cl l.prog w K mg base 1 "parts_of" ["row"] (spD 1 SPts.f) := ⟨f15, _, ok_pts F15, g15, F15.kp, b15⟩
  have C16 : Cl l.prog w K mg base 1 "led_along" ["row", "numbers"] (spD 2 SLed.f) := ⟨f16, _, ok_led F16 m_tuple, g16, F16.kp, b16⟩
  have C17 : Cl l.prog w K mg base 2 "rows_gone_back_to" ["paper"] (spD 1 SGon.f) := ⟨f17, _, ok_gon F17 m_range m_len m_enumerate C15, g17, F17.kp, b17⟩
  have C18 : Cl l.prog w K mg base 3 "trimmed" ["paper"] (spD 1 STrm.f) := ⟨f18, _, ok_trm F18 m_tuple m_enumerate C17 C16, g18, F18.kp, b18⟩
  have C19 : Cl l.prog w K mg base 1 "_law_draws" ["_law_script"] (spDraws K) := ⟨f19, _, ok_draws F19 m_len m_list m_int, g19, F19.kp, b19⟩
  have C20 : Cl l.prog w K mg base 1 "_law_next" ["_law_drawn", "_law_below"] (spN 1 gNext) := ⟨f20, _, ok_nextN (ok_next (k := 0) F20 m_len), g20, F20.kp, b20⟩
  have CF_next : Cl l.prog w K mg base 1 "_law_next" ["_law_drawn", "_law_below"] spNext := ⟨f20, _, ok_next (k := 0) F20 m_len, g20, F20.kp, b20⟩
  have C21 : Cl l.prog w K mg base 2 "_law_one" ["_law_drawn", "_law_wares"] (spN 1 gOne) := ⟨f21, _, ok_oneN F21 m_len C20, g21, F21.kp, b21⟩
  have CF_one : Cl l.prog w K mg base 2 "_law_one" ["_law_drawn", "_law_wares"] (spOne K) := ⟨f21, _, ok_one F21 m_len CF_next, g21, F21.kp, b21⟩
  have C22 : Cl l.prog w K mg base 3 "_law_kinds" ["_law_drawn", "_law_many"] (spN 1 gKinds) := ⟨f22, _, ok_kinds (ok_kindsF' F22 m_range m_sorted m_tuple CF_next CF_one), g22, F22.kp, b22⟩
  have C23 : Cl l.prog w K mg base 3 "_law_source" ["_law_drawn", "_law_size", "_law_kinds_here", "_law_old"] (spN 3 gSource) := ⟨f23, _, ok_source F23 C20 C21, g23, F23.kp, b23⟩
  have C24 : Cl l.prog w K mg base 3 "_law_part" ["_law_drawn", "_law_kinds_here", "_law_old"] (spN 2 gPart) := ⟨f24, _, ok_part F24 m_min C20 C21, g24, F24.kp, b24⟩
  have C25 : Cl l.prog w K mg base 4 "_law_way" ["_law_drawn", "_law_size", "_law_kinds_here", "_law_old"] (spN 3 gWay) := ⟨f25, _, ok_way F25 m_range m_tuple C20 C21 C24, g25, F25.kp, b25⟩
  have C26 : Cl l.prog w K mg base 5 "_law_world" ["_law_drawn", "_law_wide", "_law_old"] (spN 2 gWorld) := ⟨f26, _, ok_world F26 m_range m_tuple C20 C22 C23 C25, g26, F26.kp, b26⟩
  have C27 : Cl l.prog w K mg base 3 "_law_odd" ["_law_drawn"] (spN 0 gOdd) := ⟨f27, _, ok_odd F27 C21, g27, F27.kp, b27⟩
  have C28 : Cl l.prog w K mg base 15 "_law_spoilt" ["_law_drawn", "_law_thing"] (spN 1 (gSp 12)) := ⟨f28, _, ok_spoilt F28 b28 g28 m_isinstance m_tuple m_len m_list m_str m_int C20 C21 C27, g28, F28.kp, b28⟩
  have C29 : Cl l.prog w K mg base 1 "_law_first" ["_law_world_here", "_law_number"] (spD 2 SFst.f) := ⟨f29, _, ok_firstL F29, g29, F29.kp, b29⟩
  have C30 : Cl l.prog w K mg base 1 "_law_fits" ["_law_part_here", "_law_thing", "_law_moment"] (spD 3 SFit.f) := ⟨f30, _, ok_fitsL F30, g30, F30.kp, b30⟩
  have C31 : Cl l.prog w K mg base 1 "_law_born" ["_law_world_here", "_law_row", "_law_found"] (spD 3 SBrn.f) := ⟨f31, _, ok_born F31 m_sorted m_int, g31, F31.kp, b31⟩
  have C32 : Cl l.prog w K mg base 2 "_law_fresh" ["_law_world_here", "_law_part_here", "_law_moment"] (spD 3 SFre.f) := ⟨f32, _, ok_fre F32 m_range m_len m_max m_min m_list C29, g32, F32.kp, b32⟩
  have C33 : Cl l.prog w K mg base 3 "_law_parts" ["_law_drawn", "_law_world_here", "_law_way_here", "_law_moment", "_law_paper_here"] (spN 4 gParts) := ⟨f33, _, ok_parts F33 m_range m_len m_tuple C20 C21 C30 C32 C31, g33, F33.kp, b33⟩
  have C34 : Cl l.prog w K mg base 4 "_law_paper" ["_law_drawn", "_law_world_here", "_law_many"] (spN 2 gPaper) := ⟨f34, _, ok_ppr F34 m_max m_range m_len m_list C20 C29 C31 C33, g34, F34.kp, b34⟩
  have C35 : Cl l.prog w K mg base 1 "_law_is" ["_law_thing", "_law_low", "_law_high"] (spD 3 sFrom) := ⟨f35, _, ok_isL F35 m_isinstance m_int m_bool, g35, F35.kp, b35⟩
  have C36 : Cl l.prog w K mg base 2 "_law_is_row" ["_law_world_here", "_law_row", "_law_ahead"] (spD 3 SIsR.f) := ⟨f36, _, ok_isRow F36 m_isinstance m_tuple m_str m_len C35, g36, F36.kp, b36⟩
  have C37 : Cl l.prog w K mg base 3 "_law_row_word" ["_law_world_here", "_law_row", "_law_found"] (spD 3 SRwL.f) := ⟨f37, _, ok_rwl F37 m_len m_int m_zip C36 C29 C30, g37, F37.kp, b37⟩
  have C38 : Cl l.prog w K mg base 4 "_law_looked" ["_law_world_here", "_law_thing"] (spD 2 SLok.f) := ⟨f38, _, ok_lok F38 m_isinstance m_tuple m_range m_len C37 C31, g38, F38.kp, b38⟩
  have C39 : Cl l.prog w K mg base 16 "_law_bent_paper" ["_law_drawn", "_law_rows"] (spN 1 gBen) := ⟨f39, _, ok_ben F39 m_max m_len C20 C21 C28, g39, F39.kp, b39⟩
  have C40 : Cl l.prog w K mg base 4 "_law_alike" ["_law_one_here", "_law_other"] (spD 2 (sAq 4)) := ⟨f40, _, ok_aq F40 b40 g40 m_isinstance m_tuple m_bool m_int m_str m_len m_all m_zip, g40, F40.kp, b40⟩
  have C41 : Cl l.prog w K mg base 1 "_law_led" ["_law_rows", "_law_names"] (spD 2 SLd.f) := ⟨f41, _, ok_ldn F41 m_len m_tuple, g41, F41.kp, b41⟩
  have C42 : Cl l.prog w K mg base 1 "_law_any_of" ["_law_some", "_law_left"] (spD 2 SAny.f) := ⟨f42, _, ok_any F42, g42, F42.kp, b42⟩
  have C43 : Cl l.prog w K mg base 3 "_law_mixed" ["_law_drawn", "_law_rows"] (spN 1 gMix) := ⟨f43, _, ok_mix F43 m_list m_range m_len C21 C42, g43, F43.kp, b43⟩
  exact ok_law F44 m_range m_tuple m_len m_isinstance C19 C20 C26 C34 C40 C13 C14 C18 C41 C43 C39 C38
end Dl
open PySem PySem.W PyProof.Rows
set_option maxHeartbeats 0 in
theorem PySem.Challenge.cw_rightage_k08_whole_papers_put_together_holds : PySem.Challenge.rw_rightage_k08_whole_papers_put_together.Holds := by
  w_on; o_law; k_head; (case hw => w_witness2)
  k_fill
  refine Dl.walk_G2 (l := PySem.Challenge.rw_rightage_k08_whole_papers_put_together) (n := 63) (k := 17) (x := "_law_script") (sp := fun w => Dl.spLaw _) (by decide +kernel) rfl (by decide) rfl ⟨rfl, by decide, by decide⟩ (fun w h Y => PySem.W.kIn_of Y) ?F (fun _ _ a ns hl _ hS => ⟨a, ns, rfl, hS, hl, fun _ => rfl⟩)
  case F =>
    intro w mg fa h KX G hmg
    refine' Dl.all_mk KX G hmg ?a0 ?l0 ?c0 ?k0 ?a1 ?l1 ?c1 ?k1 ?a2 ?l2 ?c2 ?k2 ?a3 ?l3 ?c3 ?k3 ?a4 ?l4 ?c4 ?k4 ?a5 ?l5 ?c5 ?k5 ?a6 ?l6 ?c6 ?k6 ?a7 ?l7 ?c7 ?k7 ?a8 ?l8 ?c8 ?k8 ?a9 ?l9 ?c9 ?k9 ?a10 ?l10 ?c10 ?k10 ?a11 ?l11 ?c11 ?k11 ?a12 ?l12 ?c12 ?k12 ?a13 ?l13 ?c13 ?k13 ?a14 ?l14 ?c14 ?k14 ?a15 ?l15 ?c15 ?k15 ?a16 ?l16 ?c16 ?k16 ?a17 ?l17 ?c17 ?k17 ?a18 ?l18 ?c18 ?k18 ?a19 ?l19 ?c19 ?k19 ?a20 ?l20 ?c20 ?k20 ?a21 ?l21 ?c21 ?k21 ?a22 ?l22 ?c22 ?k22 ?a23 ?l23 ?c23 ?k23 ?a24 ?l24 ?c24 ?k24 ?a25 ?l25 ?c25 ?k25 ?a26 ?l26 ?c26 ?k26 ?a27 ?l27 ?c27 ?k27 ?a28 ?l28 ?c28 ?k28 ?a29 ?l29 ?c29 ?k29 ?a30 ?l30 ?c30 ?k30 ?a31 ?l31 ?c31 ?k31 ?a32 ?l32 ?c32 ?k32 ?a33 ?l33 ?c33 ?k33 ?a34 ?l34 ?c34 ?k34 ?a35 ?l35 ?c35 ?k35 ?a36 ?l36 ?c36 ?k36 ?a37 ?l37 ?c37 ?k37 ?a38 ?l38 ?c38 ?k38 ?a39 ?l39 ?c39 ?k39 ?a40 ?l40 ?c40 ?k40 ?a41 ?l41 ?c41 ?k41 ?a42 ?l42 ?c42 ?k42 ?a43 ?l43 ?c43 ?k43 ?a44 ?l44 ?c44 ?k44 ?z_isinstance ?z_int ?z_bool ?z_tuple ?z_len ?z_min ?z_max ?z_all ?z_zip ?z_enumerate ?z_range ?z_list ?z_sorted ?z_str ?y_LAST
    (case a0 => k_is)
    (case l0 => k_is)
    (case c0 => k_is)
    (case k0 => k_is)
    (case a1 => k_is)
    (case l1 => k_is)
    (case c1 => k_is)
    (case k1 => k_is)
    (case a2 => k_is)
    (case l2 => k_is)
    (case c2 => k_is)
    (case k2 => k_is)
    (case a3 => k_is)
    (case l3 => k_is)
    (case c3 => k_is)
    (case k3 => k_is)
    (case a4 => k_is)
    (case l4 => k_is)
    (case c4 => k_is)
    (case k4 => k_is)
    (case a5 => k_is)
    (case l5 => k_is)
    (case c5 => k_is)
    (case k5 => k_is)
    (case a6 => k_is)
    (case l6 => k_is)
    (case c6 => k_is)
    (case k6 => k_is)
    (case a7 => k_is)
    (case l7 => k_is)
    (case c7 => k_is)
    (case k7 => k_is)
    (case a8 => k_is)
    (case l8 => k_is)
    (case c8 => k_is)
    (case k8 => k_is)
    (case a9 => k_is)
    (case l9 => k_is)
    (case c9 => k_is)
    (case k9 => k_is)
    (case a10 => k_is)
    (case l10 => k_is)
    (case c10 => k_is)
    (case k10 => k_is)
    (case a11 => k_is)
    (case l11 => k_is)
    (case c11 => k_is)
    (case k11 => k_is)
    (case a12 => k_is)
    (case l12 => k_is)
    (case c12 => k_is)
    (case k12 => k_is)
    (case a13 => k_is)
    (case l13 => k_is)
    (case c13 => k_is)
    (case k13 => k_is)
    (case a14 => k_is)
    (case l14 => k_is)
    (case c14 => k_is)
    (case k14 => k_is)
    (case a15 => k_is)
    (case l15 => k_is)
    (case c15 => k_is)
    (case k15 => k_is)
    (case a16 => k_is)
    (case l16 => k_is)
    (case c16 => k_is)
    (case k16 => k_is)
    (case a17 => k_is)
    (case l17 => k_is)
    (case c17 => k_is)
    (case k17 => k_is)
    (case a18 => k_is)
    (case l18 => k_is)
    (case c18 => k_is)
    (case k18 => k_is)
    (case a19 => k_is)
    (case l19 => k_is)
    (case c19 => k_is)
    (case k19 => k_is)
    (case a20 => k_is)
    (case l20 => k_is)
    (case c20 => k_is)
    (case k20 => k_is)
    (case a21 => k_is)
    (case l21 => k_is)
    (case c21 => k_is)
    (case k21 => k_is)
    (case a22 => k_is)
    (case l22 => k_is)
    (case c22 => k_is)
    (case k22 => k_is)
    (case a23 => k_is)
    (case l23 => k_is)
    (case c23 => k_is)
    (case k23 => k_is)
    (case a24 => k_is)
    (case l24 => k_is)
    (case c24 => k_is)
    (case k24 => k_is)
    (case a25 => k_is)
    (case l25 => k_is)
    (case c25 => k_is)
    (case k25 => k_is)
    (case a26 => k_is)
    (case l26 => k_is)
    (case c26 => k_is)
    (case k26 => k_is)
    (case a27 => k_is)
    (case l27 => k_is)
    (case c27 => k_is)
    (case k27 => k_is)
    (case a28 => k_is)
    (case l28 => k_is)
    (case c28 => k_is)
    (case k28 => k_is)
    (case a29 => k_is)
    (case l29 => k_is)
    (case c29 => k_is)
    (case k29 => k_is)
    (case a30 => k_is)
    (case l30 => k_is)
    (case c30 => k_is)
    (case k30 => k_is)
    (case a31 => k_is)
    (case l31 => k_is)
    (case c31 => k_is)
    (case k31 => k_is)
    (case a32 => k_is)
    (case l32 => k_is)
    (case c32 => k_is)
    (case k32 => k_is)
    (case a33 => k_is)
    (case l33 => k_is)
    (case c33 => k_is)
    (case k33 => k_is)
    (case a34 => k_is)
    (case l34 => k_is)
    (case c34 => k_is)
    (case k34 => k_is)
    (case a35 => k_is)
    (case l35 => k_is)
    (case c35 => k_is)
    (case k35 => k_is)
    (case a36 => k_is)
    (case l36 => k_is)
    (case c36 => k_is)
    (case k36 => k_is)
    (case a37 => k_is)
    (case l37 => k_is)
    (case c37 => k_is)
    (case k37 => k_is)
    (case a38 => k_is)
    (case l38 => k_is)
    (case c38 => k_is)
    (case k38 => k_is)
    (case a39 => k_is)
    (case l39 => k_is)
    (case c39 => k_is)
    (case k39 => k_is)
    (case a40 => k_is)
    (case l40 => k_is)
    (case c40 => k_is)
    (case k40 => k_is)
    (case a41 => k_is)
    (case l41 => k_is)
    (case c41 => k_is)
    (case k41 => k_is)
    (case a42 => k_is)
    (case l42 => k_is)
    (case c42 => k_is)
    (case k42 => k_is)
    (case a43 => k_is)
    (case l43 => k_is)
    (case c43 => k_is)
    (case k43 => k_is)
    (case a44 => k_is)
    (case l44 => k_is)
    (case c44 => k_is)
    (case k44 => k_is)
    (case z_isinstance => k_is)
    (case z_int => k_is)
    (case z_bool => k_is)
    (case z_tuple => k_is)
    (case z_len => k_is)
    (case z_min => k_is)
    (case z_max => k_is)
    (case z_all => k_is)
    (case z_zip => k_is)
    (case z_enumerate => k_is)
    (case z_range => k_is)
    (case z_list => k_is)
    (case z_sorted => k_is)
    (case z_str => k_is)
    (case y_LAST => k_is)

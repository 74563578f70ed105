import PyProof.Rows.All
import Wide.All
import OpenK.AllK
import Wide.FinOn
import HandS.ForMost
import HandS.Wide
import HandS.IsInst
import HandS.TupAny
import HandS.Conv
import HandS.Call
import KE.KAssignIn
import KE.GoesMore
import KE.GoesEnum
import HandS.ForExc
import HandS.ExcInit
import HandS.ExcField
import HandS.TryMany
import KE.KTryMore
import HandS.ExcIs
import HandS.EndOwn
import PyProof.P3In
import HandS.Zip
import HandS.Walk
import KE.GoesZip
import PyProof.ExcBaseAll.OverflowError
import KE.KExcInit
import PyProof.ExcBaseAll.LookupError
import HandS.Star
import HandS.SlotsOwn
import KE.KOpsOwn
import OpenK.KOps
import HandS.TupMul
import PyProof.InstNe
import KE.KRevSl
import HandS.Defaults
import HandS.WideBits
import HandS.Property
import HandS.MakeKwOnly
import HandS.Style
import PySem.Challenge.RW_stepsound_k56_steps_all_or_none
set_option Elab.async false
set_option linter.all false
set_option maxRecDepth 100000
namespace My
open PySem PySem.Spec PyProof.Rows L2

/-! ### heaps -/
theorem same_new {H : Hp} {p : Addr} {o : HO} (h : H p = none) : Same H (upd H p o) := fun b x e => by
  rw [upd_ne (ne_of_none e h)]
  exact e
theorem same_tup {K : PySem.W.Frag} {H H' : Hp} {a : Addr} {xs : List V} (e : Same H H') (h : SqT K H a xs) : SqT K H' a xs := by
  rcases h with (h | ⟨o, h⟩) | h
  · exact .inl (.inl (e _ _ h))
  · exact .inl (.inr ⟨o, e _ _ h⟩)
  · exact .inr h
/-- every tuple stands -/
def TupS (H H' : Hp) : Prop := ∀ b xs, H b = some (.tup xs) → H' b = some (.tup xs)
theorem Same.tupS {H H' : Hp} (e : Same H H') : TupS H H' := fun b xs h => e b _ h

/-! ### rules within a comprehension: the written part by its own name -/
theorem ix_tupK {X : Cx} {K : PySem.W.Frag} (h : X.K = K := by rfl) : IxR X (rIxT K) := by
  subst h
  exact ix_tup
theorem ix_listK {X : Cx} {K : PySem.W.Frag} (h : X.K = K := by rfl) : IxR X (rIxL K) := by
  subst h
  exact ix_list
def rLen (K : PySem.W.Frag) : List V → Hp → VK → Prop := fun xs H Q => ∃ p ys, xs = [.ref p] ∧ (SqL K H p ys ∨ SqT K H p ys) ∧ Q (.int ys.length) H
theorem call_lenK {X : Cx} {K : PySem.W.Frag} (h : X.K = K := by rfl) : CallR X (.builtin "len") (rLen K) := by
  subst h
  exact call_len_seq
/-! ### the drawer of a law: a dict of two lists and a number -/
def dd (c l : Addr) (k : Int) : List (Key × V) := [(.inr "cells", .ref c), (.inr "left", .ref l), (.inr "at", .int k)]
theorem nCL : ¬ ((Sum.inr ("cells" : Str) : Key) = Sum.inr ("left" : Str)) := by decide +kernel
theorem nCA : ¬ ((Sum.inr ("cells" : Str) : Key) = Sum.inr ("at" : Str)) := by decide +kernel
theorem nLC : ¬ ((Sum.inr ("left" : Str) : Key) = Sum.inr ("cells" : Str)) := by decide +kernel
theorem nLA : ¬ ((Sum.inr ("left" : Str) : Key) = Sum.inr ("at" : Str)) := by decide +kernel
theorem nAC : ¬ ((Sum.inr ("at" : Str) : Key) = Sum.inr ("cells" : Str)) := by decide +kernel
theorem nAL : ¬ ((Sum.inr ("at" : Str) : Key) = Sum.inr ("left" : Str)) := by decide +kernel
theorem dd_c (c l : Addr) (k : Int) : valV (dd c l k) (.inr "cells") = some (.ref c) := valV_pos rfl
theorem dd_l (c l : Addr) (k : Int) : valV (dd c l k) (.inr "left") = some (.ref l) := (valV_neg nCL).trans (valV_pos rfl)
theorem dd_a (c l : Addr) (k : Int) : valV (dd c l k) (.inr "at") = some (.int k) := (valV_neg nCA).trans ((valV_neg nLA).trans (valV_pos rfl))
theorem sCL : ¬ (("cells" : Str) = "left") := by decide +kernel
theorem sCA : ¬ (("cells" : Str) = "at") := by decide +kernel
theorem sLA : ¬ (("left" : Str) = "at") := by decide +kernel
theorem sAL : ¬ (("at" : Str) = "left") := by decide +kernel
theorem dd_pl (c l l' : Addr) (k : Int) : putK (dd c l k) (.inr "left") (.ref l') = dd c l' k := by
  simp [putK, dd, sCL, sAL]
theorem dd_pa (c l : Addr) (k k' : Int) : putK (dd c l k) (.inr "at") (.int k') = dd c l k' := by
  simp [putK, dd, sCA, sLA]
theorem dd_mk (c l : Addr) : mergeK [] [(Sum.inr "cells", V.ref c), (Sum.inr "left", V.ref l), (Sum.inr "at", V.int 0)] = dd c l 0 := by
  simp [mergeK, putK, dd, sCL, sCA, sLA]

/-- at m the drawer with its lists at c and l, for n draws more -/
structure Dr (H : Hp) (m c l : Addr) (n : Nat) : Prop where
  ex : ∃ (cs ls : List Int) (k : Int), H m = some (.dK (dd c l k)) ∧ H c = some (.lst (cs.map V.int)) ∧ H l = some (.lst (ls.map V.int)) ∧ c ≠ l ∧
    cs.length ≤ 63 ∧ ls.length ≤ 63 ∧ (∀ x ∈ ls, 0 ≤ x) ∧ 0 ≤ k ∧ k + (n : Int) ≤ 1000000
/-- all but the drawer's own stands; its list of what is left is the old one or new -/
structure Kp (m l : Addr) (H : Hp) (l' : Addr) (H' : Hp) : Prop where
  st : ∀ b o, H b = some o → b ≠ m → b ≠ l → H' b = some o
  nw : l' = l ∨ H l' = none
  dm : ∀ b, H' b = none → H b = none
theorem Kp.refl (m l : Addr) (H : Hp) : Kp m l H l H := ⟨fun _ _ h _ _ => h, .inl rfl, fun _ h => h⟩
theorem Kp.off {m l l' : Addr} {H H' : Hp} (k : Kp m l H l' H') {b : Addr} {o : HO} (h : H b = some o) (n : b ≠ l) : b ≠ l' := by
  rcases k.nw with e | e
  · rw [e]; exact n
  · exact ne_of_none h e
theorem Kp.trans {m l l' l'' : Addr} {H H' H'' : Hp} (a : Kp m l H l' H') (b : Kp m l' H' l'' H'') : Kp m l H l'' H'' := by
  refine ⟨fun q o h n1 n2 => b.st q o (a.st q o h n1 n2) n1 (a.off h n2), ?_, fun q e => a.dm q (b.dm q e)⟩
  rcases b.nw with e | e
  · rw [e]; exact a.nw
  · exact .inr (a.dm _ e)
/-- a new object -/
theorem Kp.new {m l : Addr} {H : Hp} {p : Addr} {o : HO} (h : H p = none) : Kp m l H l (upd H p o) := by
  refine ⟨fun b u e _ _ => same_new h b u e, .inl rfl, fun b e => ?_⟩
  unfold upd at e
  split at e
  · cases e
  · exact e
theorem Dr.new {H : Hp} {m c l n : Nat} {p : Addr} {o : HO} (d : Dr H m c l n) (h : H p = none) : Dr (upd H p o) m c l n := by
  obtain ⟨cs, ls, k, h1, h2, h3, r⟩ := d.ex
  exact ⟨cs, ls, k, same_new h _ _ h1, same_new h _ _ h2, same_new h _ _ h3, r⟩
/-- a change of another object than the drawer's -/
theorem Dr.set {H : Hp} {m c l n : Nat} {p : Addr} {o : HO} (d : Dr H m c l n) (n1 : p ≠ m) (n2 : p ≠ c) (n3 : p ≠ l) : Dr (upd H p o) m c l n := by
  obtain ⟨cs, ls, k, h1, h2, h3, r⟩ := d.ex
  exact ⟨cs, ls, k, (upd_ne n1.symm).trans h1, (upd_ne n2.symm).trans h2, (upd_ne n3.symm).trans h3, r⟩
theorem Dr.less {H : Hp} {m c l n k : Nat} (d : Dr H m c l n) (h : k ≤ n) : Dr H m c l k := by
  obtain ⟨cs, ls, z, h1, h2, h3, h4, h5, h6, h7, h8, h9⟩ := d.ex
  exact ⟨cs, ls, z, h1, h2, h3, h4, h5, h6, h7, h8, by omega⟩
theorem Dr.same {H H' : Hp} {m c l n : Nat} (d : Dr H m c l n) (s : Same H H') : Dr H' m c l n := by
  obtain ⟨cs, ls, k, h1, h2, h3, r⟩ := d.ex
  exact ⟨cs, ls, k, s _ _ h1, s _ _ h2, s _ _ h3, r⟩
theorem Kp.same {m l : Addr} {H H' : Hp} (s : Same H H') : Kp m l H l H' := ⟨fun b o h _ _ => s b o h, .inl rfl, fun _ h => s.free h⟩
/-- tuples stand -/
theorem Kp.tup {m c l l' n : Addr} {H H' : Hp} (k : Kp m l H l' H') (d : Dr H m c l n) : TupS H H' := fun b xs h => by
  obtain ⟨cs, ls, z, h1, h2, h3, r⟩ := d.ex
  exact k.st b _ h (ne_of h h1 nofun) (ne_of h h3 nofun)
end My

/-! a field as a target among others -/
namespace My
open PySem PySem.Spec PyProof.Rows L2
section
variable {X : Cx} {o : Expr} {f : Str} {pos : Pos} {ta : TE}
def gFld (K : PySem.W.Frag) (ta : TE) (f : Str) : TG := fun v σ H Q => ta σ H fun x H1 => ∃ a C dx fs, x = .ref a ∧ H1 a = some (.ins C dx fs) ∧ Cls K C ∧ NoAttr K C f ∧ fs.length < 1000 ∧ Q σ (upd H1 a (.ins C dx (putF f v fs)))
theorem pg_fld (ha : PE X o ta) : PG X (.Attribute o f pos) (gFld X.K ta f) := by
  refine ⟨fun pins s σ H v u Q I r h => ?_⟩
  refine PySem.W.kas_attr (thn (ha.run pins s σ H _ I h) fun ov s2 ⟨x, H2, I2, rx, a, C, dx, fs, ex, ea, c, n, l, q2⟩ => ?_)
  subst ex
  obtain rfl : ov = Value.ref a := rx
  exact setattr_ok I2 ea c n l r fun s3 I3 => ⟨σ, _, I3, q2⟩
end
end My

/-! Defs that write out data (repr): their promise is asked only where nothing is being written out around them. -/
namespace My
open PySem PySem.Spec PyProof.Rows L2
/-- as the layer's promise of a def, for calls around which no guard stands -/
structure FnG (P : Program) (w : World) (K : PySem.W.Frag) (mg : Str → Option Value) (base : Heap) (k : Nat) (f : Addr) (fd : FuncData)
    (ps : List Str) (sp : Sp) : Prop where
  len : ∀ vs H Q E, sp vs H Q E → vs.length = ps.length
  go : ∀ (A : Around) (outer : List Env) (s : Shared) (H : Hp) (args : Args) (us : List Value) (vs : List V) (Q : VK) (E : XK),
    A.guards = some [] → Room k A → Env0 P w K mg base A outer s H → BindsTo s fd args (ps.zip us) → Vals vs us → sp vs H Q E →
    codeAny (model P w) A (.call (.ref f) args) (CR CX0 outer P w H s Q E) s
section
variable {P : Program} {w : World} {K : PySem.W.Frag} {mg : Str → Option Value} {base : Heap}
theorem FnG.of {k : Nat} {f : Addr} {fd : FuncData} {ps : List Str} {sp : Sp} (F : FnOk P w K mg base CX0 k f fd ps sp) : FnG P w K mg base k f fd ps sp :=
  ⟨F.len, fun A o s H args us vs Q E _ hr => F.run A o s H args us vs Q E hr⟩
theorem okG {x qual : Str} {st : Stmt} {f : Addr} {fd : FuncData} {N ps : List Str} {k : Nat} {sp : Sp} (F : Fun K x qual st f fd)
    (S : FnScope N ps (defScope st)) (len : ∀ vs H Q E, sp vs H Q E → vs.length = ps.length)
    (body : ∀ (cdv : Value) (A : Around) (outer : List Env) (s : Shared) (H : Hp) (vs : List V) (Q : VK) (E : XK), A.guards = some [] →
      Room k (A.deeper (envOfC qual (defScope st) s.heap.objs.size f cdv)) → sp vs H Q E →
      ∃ t, PSs (cxOf CX0 P w K mg base N qual (defScope st) f cdv A outer s H E).nox (defBody st) t ∧
        t { nx := fun _ H' => Q .non H', rt := Q } (start N vs) H) :
    FnG P w K mg base (k + 1) f fd ps sp := by
  obtain ⟨oc, od, kV, doc, pm, an, cdv, ct, osl, rfl, lk, hcd⟩ := F.ex
  refine ⟨len, fun A outer s H args us vs Q E hg room env0 binds rel want => ?_⟩
  have inK : K.In s.heap := env0.mod.kin.keeps fun b o e => (env0.bs b o e).1
  have noLim : s.heap.NoLimit := env0.mod.nolimit.keeps fun b o e => (env0.bs b o e).1
  have kinds : ∀ y ∈ ps.zip us, (defScope st).names.lookup y.1 = some .local ∨
      ((defScope st).names.lookup y.1 = some .cell ∧ ((cellsFrom (s.heap.objs.size + 1) (defScope st).names []).lookup y.1).isSome = true) := by
    rintro ⟨n, v⟩ hy
    rcases S.par n (List.of_mem_zip hy).1 with q | q
    · exact Or.inl q
    · exact Or.inr ⟨q, PySem.W.cellsFrom_some _ _ _ (Or.inl q)⟩
  refine codeAny_call_function room.depth (inK _ _ lk) rfl S.co S.gen rfl (PySem.W.codeRec_of inK hcd)
    (binds _ _ _ _ ?_)
  refine wpAny_newFunctionEnv_cells S.kind kinds
    fun env he s1 x => ?_
  subst he
  refine ⟨noLim.keeps x.toInCall.keep,
    codeAny_func ?_⟩
  obtain ⟨t, ht, run⟩ := body cdv A outer s H vs Q E hg (room.deeper _) want
  have start0 : Inv (cxOf CX0 P w K mg base N qual (defScope st) f cdv A outer s H E) [] (start N vs) H s1 :=
    inv_start S room.hd env0 (len _ _ _ _ want) rel x
  refine wpAny_mono (ht.nox.run [] s1 (start N vs) H _ start0 run)
    (fun flow s' hs => ?_) fun e s' hs => hs
  have fin : ∀ {σ' : L2.St} {H' : Hp} {v : V} {u : Value}, Inv (cxOf CX0 P w K mg base N qual (defScope st) f cdv A outer s H E) [] σ' H' s' →
      RelV v u → Q v H' → CE outer P w H s Q u s' :=
    fun {_ H' v _} J rv q => ⟨v, H', J.os, J.bare, J.base, J.hok, rv, q⟩
  cases flow with
  | ret u =>
    obtain ⟨v, σ', H', J, rv, q⟩ := hs
    exact fin J rv q
  | next =>
    obtain ⟨σ', H', J, q⟩ := hs
    exact fin (v := V.non) (u := Value.none) J rfl q
  | brk => obtain ⟨_, _, _, q⟩ := hs; exact q.elim
  | cont => obtain ⟨_, _, _, q⟩ := hs; exact q.elim
end
section
variable {X : Cx}
theorem goG {k : Nat} {f : Addr} {fd : FuncData} {ps : List Str} {sp : Sp} {ds : List Value} {dvs : List V} {E : XK} {pins : List (Addr × Obj)} {σ : L2.St} {H : Hp} {s : Shared} {Q : VK} {us : List Value} {vs : List V}
    (F : FnG X.prog X.w X.K X.mg X.base k f fd ps sp) (hg : X.A.guards = some []) (hr : Room k X.A) (hb : Binds X.K fd ps ds) (hd : Vals dvs ds) (hx : Passes CX0 X E)
    (I : Inv X pins σ H s) (r : Vals vs us) (h : sp (vs ++ dvs) H Q E) :
    wpAny (model X.prog X.w) X.A (call (.ref f) us) (EP X pins σ Q) X.xe s := by
  have rr : Vals (vs ++ dvs) (us ++ ds) := r.append hd
  have len : (us ++ ds).length = ps.length := rr.length ▸ F.len _ _ _ _ h
  refine wpAny_call (codeAny_mono (F.go X.A X.stack s H ⟨us, []⟩ (us ++ ds) (vs ++ dvs) Q E hg hr I.env0 (hb s us I.kIn len) rr h) ?_)
  intro res s' hq
  match res, hq with
  | .error e, hq => exact hx pins σ H s e s' I hq
  | .ok (.ret u), hq => exact I.after hq
/-- f(e, ..), f writing out data -/
theorem pe_callG {k : Nat} {f : Addr} {fd : FuncData} {ps : List Str} {sp : Sp} {ds : List Value} {dvs : List V} {E : XK} {x : Str} {e : Expr} {es : List Expr} {t : TA} {p pos : Pos}
    (F : FnG X.prog X.w X.K X.mg X.base k f fd ps sp) (hgd : X.A.guards = some []) (hr : Room k X.A) (hg : Gl X x) (hm : X.mg x = some (.ref f)) (hk : PySem.W.keepIn X.K (.ref f) = true)
    (hb : Binds X.K fd ps ds) (hd : Vals dvs ds) (hx : Passes CX0 X E) (ha : PA X (e :: es) t) (hdb : (x == ("__debug__" : Str)) = false := by decide)
    (he : starEach (e :: es) X.env = (false, eval e X.env) :: starEach es X.env := by rfl)
    (hpl : (backTo pos (starEach es X.env)).any (·.1) = false := by rfl) :
    PE X (.Call (.Name x p) (e :: es) [] pos) (tCall sp dvs E t) := by
  refine ⟨fun pins s σ H Q I h => wpAny_Call_Name_kw (ld_glob I hg hm ?_ hdb)⟩
  refine PySem.W.callWith_K (h₀ := X.base) I.ok.mod.kin hk
    (thn (ha.run pos pins s σ H _ I h) fun us s1 ⟨vs, H1, I1, r, q⟩ => ⟨I1.kIn, ?_⟩) he hpl
  exact goG F hgd hr hb hd hx I1 r q

/-! ### repr -/
def rRepr (K : PySem.W.Frag) : List V → Hp → VK → Prop := fun xs H Q => ∃ (v : V) (d : PyData), xs = [v] ∧ Dp K H v d ∧ d.showable = true ∧ d.hasDict = false ∧
  d.depth ≤ 60 ∧ d.shown.length ≤ sizeLine ∧ Q (.str d.shown) H
theorem call_repr (hg : X.A.guards = some []) (hu : X.A.units + 64 < cLine) : CallR X (.builtin "repr") (rRepr X.K) := by
  intro pins s σ H xs us Q I r h
  obtain ⟨v, d, rfl, hd, hs, hn, hdp, hz, q⟩ := h
  obtain ⟨u, rfl, ru⟩ := vals1 r
  cases hd with
  | non =>
    cases ru
    exact P.repr_of_none ⟨.str _, H, I.tok _, ⟨_, rfl⟩, q⟩
  | bl b =>
    cases ru
    exact P.repr_of_bool ⟨.str _, H, I.tok _, ⟨_, rfl⟩, q⟩
  | int i =>
    obtain ⟨t, rfl⟩ := ru
    exact P.repr_of_int (of_decide_eq_true hs) ⟨.str _, H, I.tok _, ⟨_, rfl⟩, q⟩
  | str x =>
    obtain ⟨t, rfl⟩ := ru
    exact P.repr_of_str ⟨.str _, H, I.tok _, ⟨_, rfl⟩, q⟩ hz
  | @lst a xs ds h1 h2 =>
    cases ru
    obtain ⟨as, rd⟩ := Dp.reads I (.list ds) (.ref a) (.ref a) (.lst h1 h2) rfl
    refine repr_of_reads' rd hs (fun z => by rw [hn] at z; cases z) hg (by omega) (fun _ _ e => e) (fun h' u tk hk => ?_) hz
    exact ⟨.str _, H, I.kept hk, ⟨_, rfl⟩, q⟩
  | @tup a xs ds h1 h2 =>
    cases ru
    obtain ⟨as, rd⟩ := Dp.reads I (.tuple ds) (.ref a) (.ref a) (.tup h1 h2) rfl
    refine repr_of_reads' rd hs (fun z => by rw [hn] at z; cases z) hg (by omega) (fun _ _ e => e) (fun h' u tk hk => ?_) hz
    exact ⟨.str _, H, I.kept hk, ⟨_, rfl⟩, q⟩
end
end My

/-! The end of a law whose promise is asked where no guard stands. -/
namespace My
open PySem PySem.Spec PyProof.Rows L2
theorem law_callG {P : Program} {w : World} {K : PySem.W.Frag} {mg mb : Str → Option Value} {k : Nat} {fa a : Addr} {fd : FuncData} {x : Str} {sp : Sp} {s₁ : Shared} {vs : List Value} {ns : List Int}
    (inK : K.In s₁.heap) (glob : s₁.heap.Ns mainGlobals mg) (blt : s₁.heap.Ns builtinsNs mb) (boot : ∀ x : Str, x ≠ "__name__" → mb x = bootBuiltins x) (nolim : s₁.heap.NoLimit) (nogen : s₁.gens = #[])
    (hobj : s₁.heap.get? a = some { cls := .type "list", data := .seq vs.toArray }) (hints : IntsAre vs ns) (hlen : ns.length ≤ sizeLine) (room : Room k callerA)
    (F : ∀ base : Heap, K.In base → base.Ns mainGlobals mg → FnG P w K mg base k fa fd [x] sp) (binds : ∀ (s : Shared) (u : Value), BindsTo s fd ⟨[u], []⟩ [(x, u)])
    (want : ∀ H : Hp, Only H → SqL K H a (ns.map V.int) → sp [.ref a] H (fun v _ => v = .bl true) fun _ _ _ => False) :
    codeAny (model P w) callerA (.call (.ref fa) ⟨[.ref a], []⟩) (fun r s' => r = .ok (.ret (.bool true)) ∧ OldK s₁.heap s'.heap ∧ s'.os = s₁.os ∧ AllBare s'.gens) s₁ := by
  have relv := vals_ints hints
  have core : ∀ H : Hp, Only H → SqL K H a (ns.map V.int) → HOk P w H s₁.heap → (∀ b, H b ≠ none → b = a) → (H a ≠ none → K.lookup a = none) →
      codeAny (model P w) callerA (.call (.ref fa) ⟨[.ref a], []⟩) (fun r s' => r = .ok (.ret (.bool true)) ∧ OldK s₁.heap s'.heap ∧ s'.os = s₁.os ∧ AllBare s'.gens) s₁ := by
    intro H only seq ok one notK
    have up : ∀ {b : Addr} {o : Obj}, s₁.heap.get? b = some o → H b = none → (hidT s₁.heap H).get? b = some o := fun e n => hidT_get e n
    have dictFree : ∀ {b : Addr} {o : Obj} {es : Array DictEntry} {ep : Nat}, s₁.heap.get? b = some o → o.data = .dict es ep → H b = none := by
      intro b o es ep e d
      cases q : H b with
      | none => rfl
      | some u =>
        have eb : b = a := one b (fun z => by rw [q] at z; cases z)
        rw [eb, hobj] at e
        cases e
        exact Data.noConfusion (show Data.seq vs.toArray _ = Data.dict es ep from d)
    have nsUp : ∀ {b : Addr} {m : Str → Option Value}, s₁.heap.Ns b m → (hidT s₁.heap H).Ns b m :=
      fun {_ _} ⟨o, es, ep, e, d, r⟩ => ⟨o, es, ep, up e (dictFree e d), d, r⟩
    have kUp : K.In (hidT s₁.heap H) := by
      intro b o e
      refine up (inK b o e) ?_
      cases q : H b with
      | none => rfl
      | some u =>
        have eb : b = a := one b (fun z => by rw [q] at z; cases z)
        rw [eb, notK (fun z => by rw [← eb, q] at z; cases z)] at e
        cases e
    have mod : Mod K mg (hidT s₁.heap H) := ⟨kUp, nsUp glob, ⟨mb, nsUp blt, boot⟩, nolim.imp fun mc z => ⟨nsUp z.1, z.2⟩⟩
    have env0 : Env0 P w K mg (hidT s₁.heap H) callerA [] s₁ H :=
      ⟨rfl, mod, fun b o e => of_hidT e, Nat.le_of_eq (hidT_size _ _), trivial, fun b hb => absurd (show b ∈ ([] : List Addr) from hb) (by simp), ok, .of_eq nogen⟩
    have call := (F _ kUp (nsUp glob)).go callerA [] s₁ H ⟨[.ref a], []⟩ [.ref a] [.ref a] _ _ rfl room env0 (binds s₁ (.ref a)) (.cons rfl .nil) (want H only seq)
    refine codeAny_mono call fun r s' h => ?_
    match r, h with
    | .error e, h => exact (show False from h).elim
    | .ok (.ret u), h =>
      obtain ⟨v, H', os, bare, un, ok', rv, q⟩ := h
      obtain rfl : v = .bl true := q
      obtain rfl : u = Value.bool true := rv
      refine ⟨rfl, OldK.of_keep (fun b o e => ?_), os, bare⟩
      rcases only b with z | ⟨ob, xs, z⟩
      · exact un.keep b o e z (fun y => absurd (show b ∈ ([] : List Addr) from y) (by simp)) (by simp)
      · obtain ⟨e1, _⟩ := ok b _ z
        obtain ⟨e2, _⟩ := ok' b _ (un.frzs b ob _ z)
        rw [e] at e1
        cases e1
        exact e2
  cases hk : K.lookup a with
  | some o =>
    have e := inK a o hk
    rw [hobj] at e
    cases e
    have stands : SqL K (fun _ => none) a (ns.map V.int) := .inr ⟨_, vs.toArray, _, hk, rfl, rfl, rfl, by rw [List.size_toArray, hints.length]; exact hlen, by simpa using relv⟩
    exact core (fun _ => none) (fun _ => .inl rfl) stands (fun b u z => nomatch (show (none : Option HO) = some u from z)) (fun b z => absurd rfl z) fun z => absurd rfl z
  | none =>
    let o : Obj := { cls := .type "list", data := .seq vs.toArray }
    have atA : (fun b => if b = a then some (HO.frz o (.lst (ns.map V.int))) else none) a = some (.frz o (.lst (ns.map V.int))) := if_pos rfl
    refine core (fun b => if b = a then some (.frz o (.lst (ns.map V.int))) else none) (fun b => ?_) (.inl (.inr ⟨o, atA⟩)) (fun b u z => ?_) (fun b z => ?_) fun _ => hk
    · by_cases hb : b = a
      · exact .inr ⟨_, _, if_pos hb⟩
      · exact .inl (if_neg hb)
    · by_cases hb : b = a
      · have y := (if_pos hb).symm.trans z
        cases y
        rw [hb]
        exact ⟨hobj, by rw [List.length_map]; exact hlen, vs, _, relv, hobj⟩
      · exact nomatch (if_neg hb).symm.trans z
    · by_cases hb : b = a
      · exact hb
      · exact absurd (if_neg hb) z
theorem walk_ofG {l : PySem.W.OpenLaw} {n k : Nat} {q : Program} {loose : List Str} {XP : (Str → Option Value) → Heap → Prop} {YP : World → Heap → Prop} {d : DefRec}
    {K : Params → PySem.W.Frag} {sp : PySem.W.Frag → Sp} {x : Str}
    (hn : l.most = some n) (hn2 : n ≤ sizeLine) (hdf : d.params.defaults = []) (room : Room k callerA)
    (hY : ∀ (w : World) (h : Heap), YP w h → (K w.params).In h)
    (F : ∀ (w : World) (mg : Str → Option Value) (fa : Addr) (h : Heap), (K w.params).In h → h.Ns mainGlobals mg → mg d.name = some (.ref fa) →
      ∃ fd : FuncData, (∀ (s : Shared) (u : Value), BindsTo s fd ⟨[u], []⟩ [(x, u)]) ∧
        ∀ base : Heap, (K w.params).In base → base.Ns mainGlobals mg → FnG l.prog w (K w.params) mg base k fa fd [x] (sp (K w.params)))
    (want : ∀ (K : PySem.W.Frag) (H : Hp) (a : Addr) (ns : List Int), ns.length ≤ n → Only H → SqL K H a (ns.map V.int) → sp K [.ref a] H (fun v _ => v = .bl true) fun _ _ _ => False) :
    PySem.W.WalkO q loose XP YP l.row.toRowW d [] (fun f vs => PySem.call f vs) := by
  refine Att.attach_call hn hdf fun w s₀ s₁ mg mb fa o pm cd doc a vs ns G Y ho hd hcd hmg hobj hints hlen hg => ?_
  obtain ⟨fd, hb, hF⟩ := F w mg fa _ (hY w _ Y) G.T.g hmg
  exact law_callG (hY w _ Y) G.T.g G.T.b G.T.builtins G.T.nolimit hg hobj hints
    (Nat.le_trans hlen hn2) room hF hb fun H only seq => want (K w.params) H a ns hlen only seq
end My

/-! for i, x in enumerate(t), t a tuple. -/
namespace My
open PySem PySem.Spec PyProof.Rows L2
/-- what enumerate(v) makes: v's iterator and itself -/
def enumO (a : Addr) : Obj :=
  { cls := .type "enumerate",
    data := .fields #[.none, .bool false, .ref a, rawInt 0, .none, .none] }
set_option maxHeartbeats 1000000 in
theorem meets_enum1 {v : Value} {o : Obj} {G : Heap → Prop} (B : Begins v o G) :
    Meets (Builtin.«enumerate.__new__» ⟨[.type "enumerate", v], []⟩) (fun _ R s => G s.heap ∧
      R (.ok (.ret (.ref (s.heap.push o).objs.size)))
        { s with heap := (s.heap.push o).push (enumO s.heap.objs.size) }) :=
  .of_wp fun prog w A R s ⟨h1, h⟩ => by
    obtain ⟨hp, gens, drawn, tk, os⟩ := s
    have isSub := sub_enumerate
    have step : ∀ {A' : Around} {E : Value → Shared → Prop} {Q : Value → Shared → Prop}, Q (.ref hp.objs.size) ⟨hp.push o, gens, drawn, tk, os⟩ →
        wpAny (model prog w) A' (pyIter v) Q E ⟨hp, gens, drawn, tk, os⟩ :=
      fun q => B.iter prog w _ _ ⟨hp, gens, drawn, tk, os⟩ _ h1 q
    wp_walk using step
    refine wpAny_stack_any fun st => wpAny_pure ?_
    split
    · rename_i c _ _ _ _ _
      by_cases hc : (c == Value.type "enumerate") = true
      · rw [hc]
        wp_walk using step
        exact ⟨_, rfl, h⟩
      · rw [Bool.not_eq_true] at hc
        rw [hc]
        wp_walk using step
        exact ⟨_, rfl, h⟩
    · wp_walk using step
      exact ⟨_, rfl, h⟩
section
variable {prog : Program} {w : World} {A : Around} {E : Value → Shared → Prop} {s : Shared}
theorem enum_call1 {v : Value} {o : Obj} {G : Heap → Prop} {Q : Value → Shared → Prop} (B : Begins v o G) (h1 : G s.heap)
    (h : ∀ h', IsEnum h' (s.heap.objs.size + 1) s.heap.objs.size 0 .none → h'.get? s.heap.objs.size = some o →
      (∀ b u, s.heap.get? b = some u → h'.get? b = some u) → Q (.ref (s.heap.objs.size + 1)) { s with heap := h' }) :
    wpAny (model prog w) A (call (.type "enumerate") [v]) Q E s := by
  have size1 : (s.heap.push o).objs.size = s.heap.objs.size + 1 := Heap.size_push ..
  have made : IsEnum ((s.heap.push o).push (enumO s.heap.objs.size)) (s.heap.objs.size + 1) s.heap.objs.size 0 .none := by
    have z := Heap.get?_push_size (s.heap.push o) (o := enumO s.heap.objs.size) rfl
    rw [size1] at z
    exact z
  refine callType_new F.called_enumerate (by decide) (F.typeCall_enumerate_1 _) (F.newCall_enumerate_1 _)
    (fun obj => F.args_object_init_2 obj _) F.entry_enumerate_new (meets_enum1 B) ⟨h1, ?_⟩
  show _ ∧ _
  rw [size1]
  exact ⟨⟨_, made, rfl⟩, h _ made (Heap.get?_push_of_some _ (Heap.get?_push_size _ B.free)) fun b u x => Heap.get?_push_of_some _ (Heap.get?_push_of_some _ x)⟩
end
/-- the tuple at a, each item in a new pair with its number -/
def Itu (K : PySem.W.Frag) (a : Addr) : It where
  go i H := ∃ (xs : List V) (x : V), SqT K H a xs ∧ xs[i]? = some x
  yld i H v H' := ∃ T x, v = .ref T ∧ H T = none ∧ H' = upd H T (.tup [.int (i : Nat), x]) ∧ ∀ xs, SqT K H a xs → xs[i]? = some x
  stop i H := ∃ xs : List V, SqT K H a xs ∧ xs.length = i
def EnumAt (e it a : Addr) (i : Nat) (h : Heap) : Prop := (∃ old, IsEnum h e it ((i : Nat) : Int) old) ∧ h.IsTupleIter it a i ∧ e ≠ it
theorem turn_enumT {P : Program} {w : World} {K : PySem.W.Frag} {elts : List Expr} {kk : Nat} {tpos : Pos} (a e it : Addr) (hae : a ≠ e) (hai : a ≠ it) :
    Turn P w K (.Tuple elts kk tpos) (Itu K a) [e, it] e (EnumAt e it a) where
  mem := by simp
  obj := fun i h st b hb => by
    obtain ⟨⟨old, he⟩, ⟨o, ho, hc, hd⟩, _⟩ := st
    rcases List.mem_cons.mp hb with z | z
    · rw [z]; exact ⟨_, he, fun v q => nomatch q⟩
    · rw [List.mem_singleton.mp z]; exact ⟨o, ho, fun v q => by rw [hd] at q; cases q⟩
  keep := fun i h h' st k => by
    obtain ⟨⟨old, he⟩, hi, hne⟩ := st
    exact ⟨⟨old, k e (by simp) _ he⟩, hi.at fun o q => k it (by simp) o q, hne⟩
  item := by
    intro X hP hw hK hc i pins s σ H E I hf st hg
    subst hP hw hK
    obtain ⟨⟨old, he⟩, hit, hne⟩ := st
    obtain ⟨xs, x, hq, hx⟩ := hg
    obtain ⟨its, rv, p, hz⟩ := I.tuple hq
    obtain ⟨u, hu, ru⟩ := rv.get hx
    have helt : e < s.heap.objs.size := Heap.lt_size he
    have hilt : it < s.heap.objs.size := by
      obtain ⟨_, q, _⟩ := hit
      exact Heap.lt_size q
    have hlt : i < its.toArray.size := by
      rw [List.size_toArray]
      exact (List.getElem?_eq_some_iff.mp hu).1
    have hef : e ∉ [it, a] := by
      intro z
      rcases List.mem_cons.mp z with q | q
      · exact hne q
      · exact hae (List.mem_singleton.mp q).symm
    refine wpAny_pyNext_enum_itemD (Draws.tuple (A := X.A.in1) (I.ok.hd hc) it a hai its.toArray) he ⟨hit, p⟩ hlt hne hef fun y h' tk hy ho hst' hT hsz hk => ?_
    have hy' : y = u := by
      have z : its.toArray[i]? = some u := by simpa using hu
      exact Option.some.inj (hy.symm.trans z)
    subst hy'
    refine ⟨_, rfl, wpAny_letOwnedTupleGo_enum (s := { s with heap := h', toks := tk + 1 }) ho fun h'' he' sb => ?_⟩
    have hT2 : h''.get? s.heap.objs.size = some { cls := .type "tuple", data := .seq #[.int i tk, y] } :=
      (sb.2 _ (Nat.ne_of_gt helt)).trans hT
    have new : ObjOk X.prog X.w (upd H s.heap.objs.size (.tup [.int (i : Nat), x])) h'' s.heap.objs.size (.tup [.int (i : Nat), x]) :=
      ⟨(by decide : 2 ≤ sizeLine), [.int i tk, y], .cons ⟨_, rfl⟩ (.cons ru .nil), _, hT2, rfl, _, rfl⟩
    have I1 : Inv X pins σ (upd H s.heap.objs.size (.tup [.int (i : Nat), x])) { s with heap := h'', toks := tk + 1 } :=
      I.turnedNew (ch := [e, it])
        (fun b ob hb q => (sb.2 b (fun z => hb (by simp [z]))).trans (hk b ob (fun z => hb (by simp [z])) (fun z => hb (by simp [z])) q)) hf (Nat.le_refl _) new
    refine ⟨.ref s.heap.objs.size, _, I1, rfl, ⟨_, x, rfl, I.hok.fresh (Nat.le_refl _), rfl, fun ys hy => by rw [I.tuple_inj hy hq]; exact hx⟩,
      ⟨⟨y, ?_⟩, hst'.1.at fun o q => (sb.2 it (Ne.symm hne)).trans q, hne⟩, fun b hb => ?_⟩
    · rw [show ((i + 1 : Nat) : Int) = (i : Int) + 1 by omega]
      exact he'
    · have hlt : b < s.heap.objs.size := by
        rcases List.mem_cons.mp hb with z | z
        · rw [z]; exact helt
        · rw [List.mem_singleton.mp z]; exact hilt
      rw [upd_ne (Nat.ne_of_lt hlt)]
      exact (hf b hb).1
  done := by
    intro X hP hw hK hc i pins s σ H E I hf st hg
    subst hP hw hK
    obtain ⟨⟨old, he⟩, hit, hne⟩ := st
    obtain ⟨xs, hq, hx⟩ := hg
    obtain ⟨its, rv, p, hz⟩ := I.tuple hq
    obtain ⟨f0, f1, f2, f3, f4, f5⟩ := hf it (by simp)
    have hl : its.toArray.size = i := by rw [List.size_toArray, ← rv.length, hx]
    have st : its.toArray.size = i → (s.heap.IsTupleIter it a its.toArray.size ∧ s.heap.IsTuple a its.toArray) := fun z => ⟨z ▸ hit, p⟩
    refine wpAny_pyNext_enum_endD (Draws.tuple (A := X.A.in1) (I.ok.hd hc) it a hai its.toArray) he (st hl) fun h' eb => ⟨rfl, ?_⟩
    exact I.turned (t' := s.toks) (fun b o hb q => eb b o hb q) f0 f1 f3 f4 f5
  self := fun A i s Q E st h => by
    obtain ⟨⟨_, he⟩, _⟩ := st
    exact wpAny_pyIter_enum he h
def iEnumT (K : PySem.W.Frag) (ta : TA) : TI := fun σ H R => ta σ H fun vs H1 => ∃ a xs, vs = [.ref a] ∧ SqT K H1 a xs ∧ R (Itu K a) H1
theorem pi_enumT {X : Cx} {e : Expr} {ta : TA} {p pos tpos : Pos} {elts : List Expr} {kk : Nat} (hg : Gl X "enumerate") (hm : X.mg "enumerate" = none) (ha : PA X [e] ta)
    (hs : starEach [e] X.env = [(false, eval e X.env)] := by rfl) : PI X (.Tuple elts kk tpos) (.Call (.Name "enumerate" p) [e] [] pos) (iEnumT X.K ta) := by
  refine ⟨fun pins s σ H R I h => Call_ (ld_blt I hg hm boot_enumerate (PyProof.Rows.callWith_type1 ?_ hs rfl))⟩
  refine thn (ha.run pos pins s σ H _ I h) fun us s1 ⟨vs, H1, I1, r1, a, xs, ex, hq, q⟩ => ?_
  subst ex
  obtain ⟨u, rfl, ru⟩ := vals1 r1
  obtain rfl : u = Value.ref a := ru
  obtain ⟨its, rv, p', hz⟩ := I1.tuple hq
  have hlt : a < s1.heap.objs.size := (by obtain ⟨o, ho, _⟩ := p'; exact Heap.lt_size ho)
  refine enum_call1 (begins_tuple a its.toArray) p' fun h' he hit hk => wpAny_pyIter_enum he ?_
  have I2 : Inv X pins σ H1 { s1 with heap := h' } := I1.kept (t' := s1.toks) hk
  refine ⟨s1.heap.objs.size + 1, [s1.heap.objs.size + 1, s1.heap.objs.size], _, _, H1, rfl, I2,
    turn_enumT a (s1.heap.objs.size + 1) s1.heap.objs.size (Nat.ne_of_lt (Nat.lt_succ_of_lt hlt)) (Nat.ne_of_lt hlt), ⟨⟨.none, he⟩, ⟨_, hit, rfl, rfl⟩, Nat.succ_ne_self _⟩, fun b hb => ?_, q⟩
  have hle : s1.heap.objs.size ≤ b := by
    rcases List.mem_cons.mp hb with z | z
    · rw [z]; exact Nat.le_add_right _ _
    · rw [List.mem_singleton.mp z]; exact Nat.le_refl _
  exact I1.fpOk hle (I1.hok.fresh hle)
end My

/-! An own error whose __init__ stores no field: it has no dict. -/
namespace My
open PySem PySem.Spec PyProof.Rows L2
def tMk0 (C : Addr) (sp : Sp) (ta : TA) : L2.St → Hp → XK → Prop := fun σ H Q => ta σ H fun vs H1 => vs.length ≤ 1000 ∧ ∀ a, H1 a = none →
  sp (.ref a :: vs) (upd H1 a (exo a C none)) (fun v H2 => v = .non ∧ H2 a = some (exo a C none) ∧ Q (.ref C) none (del H2 a)) (fun _ _ _ => False)
section
variable {X : Cx}
theorem end_nodict {pins : List (Addr × Obj)} {σ : L2.St} {H1 H2 : Hp} {hp hp2 h2 : Heap} {g1 g2 : Array GenState} {d1 d2 : Drawn} {t1 t2 : Nat} {os1 os2 : OsState} {a C : Addr}
    (I1 : Inv X pins σ H1 ⟨hp, g1, d1, t1, os1⟩) (above : hp.objs.size ≤ a) (kept : ∀ b o, hp.get? b = some o → hp2.get? b = some o)
    (un : Un (frs X.stack) [] (upd H1 a (exo a C none)) H2 hp2 h2) (ok : HOk X.prog X.w H2 h2) (sameOs : os2 = os1) (bare : AllBare g2) (ea : H2 a = some (exo a C none)) :
    ∃ (t0 : Addr) (G : Heap), Inv X pins σ (del H2 a) ⟨G, g2, d2, t2, os2⟩ ∧ (∀ b o, G.get? b = some o → h2.get? b = some o) ∧ G.get? a = none ∧
      h2.get? a = some ({ cls := .ref C, dict := none, data := .fields #[.ref t0, .none, .none, .none, .bool false, .none] } : Obj) := by
  obtain ⟨t0, obj⟩ := exo_at ok ea
  have free : H1 a = none := I1.hok.fresh above
  obtain ⟨G, in1, in2⟩ := restrict h2 fun b => decide (b ≠ a)
  have same : ∀ b, b ≠ a → G.get? b = h2.get? b := fun b hb => in1 b (decide_eq_true hb)
  have gone : G.get? a = none := in2 a (by simp)
  have other : ∀ {b : Addr} {o : Obj}, hp.get? b = some o → b ≠ a :=
    fun {_ _} z => Nat.ne_of_lt (Nat.lt_of_lt_of_le (Heap.lt_size z) above)
  have still : ∀ {b : Addr}, b ≠ a → H1 b = none → upd H1 a (exo a C none) b = none := fun {_} hb n => (upd_ne hb).trans n
  have newU : Un (frs X.stack) [] H1 (del H2 a) hp G := {
    keep := fun b o z n hf hx => (same b (other z)).trans (un.keep b o (kept b o z) (still (other z) n) hf hx)
    slot := fun b o z n hf hx => by
      obtain ⟨sl, e⟩ := un.slot b o (kept b o z) (still (other z) n) hf hx
      exact ⟨sl, (same b (other z)).trans e⟩
    free := fun b o z n hx => (del_ne (other z)).trans (un.free b o (kept b o z) (still (other z) n) hx)
    there := fun b o z hx => by
      obtain ⟨u, e⟩ := un.there b o (kept b o z) hx
      exact ⟨u, (same b (other z)).trans e⟩
    tups := fun b xs z => (del_ne (ne_of_none z free)).trans (un.tups b xs ((upd_ne (ne_of_none z free)).trans z))
    frzs := fun b o v z => (del_ne (ne_of_none z free)).trans (un.frzs b o v ((upd_ne (ne_of_none z free)).trans z))
    tbls := fun b ps z => by
      obtain ⟨more, e⟩ := un.tbls b ps ((upd_ne (ne_of_none z free)).trans z)
      exact ⟨more, (del_ne (ne_of_none z free)).trans e⟩ }
  have newOk : HOk X.prog X.w (del H2 a) G := by
    intro b o z
    have hba : b ≠ a := fun e => by
      rw [e, del_same] at z
      cases z
    rw [del_ne hba] at z
    have notOwn : ∀ {c : Addr}, H2 c = some (.own b) → c ≠ a := fun {_} hc => at_ne ea hc exo_own
    refine (ok b o z).stay (fun c v hc y => ?_) (fun c hc => (del_ne (notOwn hc)).trans hc) (fun c xs hc => (del_ne (at_ne ea hc exo_tup)).trans hc)
    have hca : c ≠ a := by
      rcases hc with hc | hc
      · rw [hc]; exact hba
      · exact notOwn hc
    exact (same c hca).trans y
  refine ⟨t0, G, I1.call' (ch := []) sameOs newU newOk bare (fun b z => absurd z (by simp)), fun b o z => ?_, gone, obj⟩
  by_cases hba : b = a
  · rw [hba, gone] at z
    cases z
  · exact (same b hba).symm.trans z
theorem pmk0 {x : Str} {C fI : Addr} {k : Nat} {fd : FuncData} {ps : List Str} {sp : Sp} {e : Expr} {es : List Expr} {ta : TA} {p pos : Pos}
    (T : OexC X.K C) (iC : PySem.W.findIn X.K (.ref C) "__init__" = some (some (.ref fI))) (tI : PySem.W.typeIn X.K (.ref fI) = some (.type "function"))
    (F1 : FnOk X.prog X.w X.K X.mg X.base CX0 k fI fd ps sp) (hr : Room (k + 1) X.A) (hb : Binds X.K fd ps []) (hm : X.mg x = some (.ref C)) (ha : PA X (e :: es) ta) (hg : Gl X x := by rfl)
    (hdb : (x == ("__debug__" : Str)) = false := by decide) (he : starEach (e :: es) X.env = (false, eval e X.env) :: starEach es X.env := by rfl)
    (hpl : (backTo pos (starEach es X.env)).any (·.1) = false := by rfl) : PMk X (.Call (.Name x p) (e :: es) [] pos) (tMk0 C sp ta) := by
  intro pins s σ H Q I h
  obtain ⟨nm, q, N, bs, bm, sn, sub, ab, col, dd, k0, k1, k2, k3, k5, hC, hbm⟩ := T.cls
  refine wpAny_Call_Name_kw (ld_glob I hg hm ?_ hdb)
  refine PySem.W.callWith_K (h₀ := X.base) I.ok.mod.kin T.kC
    (thn (ha.run pos pins s σ H _ I h) fun us s1 ⟨vs, H1, I1, rel, few, want⟩ => ⟨I1.kIn, ?_⟩) he hpl
  show wpAny _ _ (call (.ref C) us) _ _ _
  obtain ⟨hp, g, dr, tk, os⟩ := s1
  have up : hp.objs.size ≤ hp.objs.size + 1 := Nat.le_succ _
  have goal1 := want (hp.objs.size + 1) (I1.hok.fresh up)
  have kept : ∀ b o, hp.get? b = some o → ((hp.push (PySem.W.kdv_tup us)).push (PySem.HandSPX.excO C hp.objs.size)).get? b = some o :=
    fun b o e => Heap.get?_push_of_some _ (Heap.get?_push_of_some _ e)
  have there : ((hp.push (PySem.W.kdv_tup us)).push (PySem.HandSPX.excO C hp.objs.size)).get? (hp.objs.size + 1) = some (PySem.HandSPX.excO C hp.objs.size) := by
    heap_get
  have I2 : Inv X pins σ (upd H1 (hp.objs.size + 1) (exo (hp.objs.size + 1) C none)) ⟨(hp.push (PySem.W.kdv_tup us)).push (PySem.HandSPX.excO C hp.objs.size), g, dr, tk, os⟩ :=
    I1.laid (t' := tk) (o := exo (hp.objs.size + 1) C none) kept up
      (exo_ok there)
  have rel2 : Vals (V.ref (hp.objs.size + 1) :: vs) (Value.ref (hp.objs.size + 1) :: us) := .cons rfl rel
  have len : (Value.ref (hp.objs.size + 1) :: us ++ []).length = ps.length := by
    have z := rel2.length
    rw [F1.len _ _ _ _ goal1] at z
    rw [List.append_nil]
    exact z.symm
  have small : us.length ≤ sizeLine := by
    rw [← Paired.length rel]
    exact Nat.le_trans few (by decide)
  have bind0 := hb _ (Value.ref (hp.objs.size + 1) :: us) I2.kIn len
  rw [List.append_nil] at bind0
  refine wpAny_call (PySem.HandSPX.call_own F.excBase_ValueError (fun Y => PySem.HandSPX.refsVE_contains Y bm hbm) (I1.kIn _ _ hC)
    (PySem.W.looks_findIn I1.kIn iC) (fun self => PySem.W.bind_fn I1.kIn self tI) small
    (codeAny_mono (F1.run _ X.stack _ _ ⟨Value.ref (hp.objs.size + 1) :: us, []⟩ (Value.ref (hp.objs.size + 1) :: us) _ _ (fun _ _ _ => False) (hr.make C us []) (I2.env0.make C us []) bind0 rel2 goal1) ?_))
  intro r s' hq
  match r, hq with
  | .error er, hq => exact (show False from hq).elim
  | .ok (.ret u), hq =>
    obtain ⟨v, H2, os2, bare2, un2, ok2, rv, rfl, ea, q2⟩ := hq
    obtain ⟨h2, g2, d2, t2, os'⟩ := s'
    obtain ⟨t0, G, J, inG, gone, obj⟩ := end_nodict (d2 := d2) (t2 := t2) I1 up kept un2 ok2 os2 bare2 ea
    exact ⟨rv, hp.objs.size + 1, _, _, ⟨G, g2, d2, t2, os'⟩, _, .ref C, none, rfl, J, inG, gone, obj, ⟨rfl, rfl⟩, rfl, rfl, del_same, rfl, bare2, raises_own T.exC T.tyC, q2⟩
theorem del_new {H : Hp} {a : Addr} {o : HO} (h : H a = none) : del (upd H a o) a = H := by
  funext b
  unfold del upd
  by_cases e : b = a
  · rw [if_pos e, e, h]
  · rw [if_neg e, if_neg e]
end
end My

/-! try with several clauses, each with a name for the exception or without one. -/
namespace My
open PySem PySem.Spec PyProof.Rows L2
abbrev Suite := Addr → Value → Option Addr → L2.TS
/-- where the suite goes on: the name's slot is emptied -/
def endsAs (D : Ends) (i : Nat) : Ends where
  nx := fun σ H => D.nx (σ.set i none) H
  rt := D.rt
  bk := fun σ H => D.bk (σ.set i none) H
  ct := fun σ H => D.ct (σ.set i none) H
def wHs (K : PySem.W.Frag) (Wout : WX) (D : Ends) : List (Value × Option Nat × Suite) → WX
  | [] => Wout
  | (c, none, ts) :: r => fun cls d σ H => ∃ b, PySem.W.exmOne K cls c = some b ∧
    (b = true → ∀ a, H a = none → ts a cls d D σ H) ∧ (b = false → wHs K Wout D r cls d σ H)
  | (c, some i, ts) :: r => fun cls d σ H => ∃ b, PySem.W.exmOne K cls c = some b ∧
    (b = true → ∀ a, H a = none → ts a cls d (endsAs D i) (σ.set i (some (.ref a))) H) ∧ (b = false → wHs K Wout D r cls d σ H)
def SuiteOk (X : Cx) (body : List Stmt) (ts : Suite) : Prop :=
  ∀ (a : Addr) (oe : Obj) (cls : Value) (d : Option Addr) (pn : List (Addr × Obj)), Zc cls d oe → (∃ vs, oe.data = .fields vs) →
    PSs (X.suite a ((a, oe) :: pn)) body (ts a cls d)
inductive Hs (X : Cx) : List ExceptHandler → List (Value × Option Nat × Suite) → Prop
  | nil : Hs X [] []
  | bare {x : Str} {c : Value} {ts : Suite} {b₀ : Stmt} {suite : List Stmt} {np pos' : Pos} {hds : List ExceptHandler} {l : List (Value × Option Nat × Suite)}
      (hc : Names X x c) (hsu : SuiteOk X (b₀ :: suite) ts) (r : Hs X hds l) : Hs X (.ExceptHandler (some (.Name x np)) none (b₀ :: suite) pos' :: hds) ((c, none, ts) :: l)
  | as {x n : Str} {i : Nat} {c : Value} {ts : Suite} {b₀ : Stmt} {suite : List Stmt} {np pos' : Pos} {hds : List ExceptHandler} {l : List (Value × Option Nat × Suite)}
      (hi : X.N[i]? = some n) (hln : X.env.kindOf n = some .local) (hc : Names X x c) (hsu : SuiteOk X (b₀ :: suite) ts) (r : Hs X hds l) :
      Hs X (.ExceptHandler (some (.Name x np)) (some n) (b₀ :: suite) pos' :: hds) ((c, some i, ts) :: l)
section
variable {X : Cx} {body : List Stmt} {h₀ : ExceptHandler} {hds : List ExceptHandler} {l : List (Value × Option Nat × Suite)} {pos : Pos} {tb : WX → L2.TS} {Wout : WX}
theorem ps_try_hs (stk : X.stack = X.env :: X.outer) (frm : X.env.frame = some X.env.locals) (nd : X.N.Nodup) (out : Takes X Wout)
    (hb : ∀ (W : WX) (pn : List (Addr × Obj)) (xe : Value → Shared → Prop), Takes (X.tr pn xe) W → PassesOwn (model X.prog X.w) X.A X.env xe → PSs (X.tr pn xe) body (tb W))
    (clauses : Hs X (h₀ :: hds) l) : PS X (.Try body (h₀ :: hds) [] [] pos) (fun D σ H => tb (wHs X.K Wout D l) D σ H) := by
  refine ⟨fun pins s σ H D I want => ?_⟩
  have ok := I.ok
  have frames : X.A.frames = some (X.env :: X.outer) := by rw [ok.frames, stk]
  refine wpAny_Try_except ?_
  let catcher : Value → Shared → Prop := fun e s₁ => wpAny (model X.prog X.w) X.A (noteFrame e X.env) (fun _ s₂ =>
    wpAny (model X.prog X.w) X.A (setFlight e none) (fun _ s₃ => wpAny (model X.prog X.w) X.A (handleBy e X.env (h₀ :: hds)) (SP X pins D) X.xe s₃) X.xe s₂) X.xe s₁
  have inBody := hb (wHs X.K Wout D l) (X.pn ++ pins) catcher (fun u s' xx => ?caught) PassesOwn.looking
  case caught =>
    obtain ⟨a, B, sI, pins', σ', H', cls, d, rfl, J', nb, up, sky, na, os, ag, wish⟩ := xx
    have J : Inv X pins σ' H' sI := J'.ofTry ok
    have sky' : Sky B (X.env :: X.outer) a (Zc cls d) X.env.locals s'.heap := stk ▸ sky
    show wpAny (model X.prog X.w) X.A (noteFrame (.ref a) X.env) _ _ _
    refine Sky.land Zc.steady frames frm sky' fun h3 fl3 up3 => ?_
    have J3 : Inv X pins σ' H' { s' with heap := h3 } := J.landed nb fl3.1 (up.trans up3) os ag
    obtain ⟨oe3, vs3, he3, hz3, hd3⟩ := fl3.there
    have noFrame : a ∉ frs (X.env :: X.outer) := fun hm => by
      obtain ⟨_, o', e', hnf⟩ := fl3.2.2.1.mem hm
      rw [he3] at e'
      cases e'
      exact hnf _ hd3
    have nL : a ≠ X.env.locals := fun z => noFrame (List.mem_filterMap.mpr ⟨X.env, List.mem_cons_self, by rw [frm, z]⟩)
    have nF : a ∉ X.fs := fun hm => by
      obtain ⟨e, he, q⟩ := List.mem_filterMap.mp hm
      exact noFrame (List.mem_filterMap.mpr ⟨e, List.mem_cons_of_mem _ he, q⟩)
    have S3 := J3.suite he3 hd3 na nL nF
    have typ : PySem.W.Looks (model X.prog X.w) h3 (typeOf (.ref a)) cls := fun A Q E s k q =>
      wpAny_typeOf_ref (k _ _ he3) (by rw [hz3.1]; exact q)
    have named : ∀ {x : Str} {c : Value} {np : Pos}, Names X x c → ∀ {Q : Value → Shared → Prop} {E : Value → Shared → Prop}, Q c { s' with heap := h3 } →
        wpAny (model X.prog X.w) (X.A.mark (some (.ref a))) (eval (.Name x np) X.env) Q E { s' with heap := h3 } := by
      intro x c np hc Q E q
      obtain ⟨hg, hdbg, hm | ⟨hm, hv, hnn⟩⟩ := hc
      · exact ld_glob (X := X.suite a ((a, oe3) :: (X.pn ++ pins))) S3 hg hm q
          hdbg
      · exact ld_blt (X := X.suite a ((a, oe3) :: (X.pn ++ pins))) S3 hg hm hv q
          hnn hdbg
    have go : ∀ {hds' : List ExceptHandler} {l' : List (Value × Option Nat × Suite)}, Hs X hds' l' → wHs X.K Wout D l' cls d σ' H' →
        wpAny (model X.prog X.w) X.A (handleBy (.ref a) X.env hds') (SP X pins D) X.xe { s' with heap := h3 } := by
      intro hds' l' hk
      induction hk with
      | nil =>
        intro wish
        refine wpAny_handleBy_nil ?_
        obtain ⟨k1, k2, k3, oe, vs, T, oT, ts', he, hz, hd, h1, hr⟩ := id fl3
        unfold PySem.passOn
        refine wpAny_bind (wpAny_field he hd h1 ?_)
        rw [if_neg (show ¬ ((Value.ref T == Value.none) = true) from by simp)]
        have away : wpAny (model X.prog X.w) X.A (setFlight (.ref a) X.env.frame) (fun _ s4 => wpAny (model X.prog X.w) X.A (throw (.ref a) : Sem Flow) (SP X pins D) X.xe s4) X.xe
            { s' with heap := h3 } := by
          rw [frm]
          refine HandSPX.setFlight_upZ fl3 fun h4 hh4 up4 => wpAny_throw (out _ _ ?_)
          exact ⟨a, B, sI, pins, σ', H', cls, d, rfl, J, nb, (up.trans up3).trans up4,
            .inr (.inr (by rw [stk]; exact hh4)), na, os, ag, wish⟩
        first
          | exact wpAny_bind (wpAny_pure (wpAny_bind away))
          | exact wpAny_bind away
      | @bare x c ts b₀ suite np pos' hds2 l2 hc hsu r ih =>
        intro wish
        obtain ⟨b, hb1, yes, no⟩ := wish
        refine wpAny_handleBy_cons (codeAny_handlers_test ?_) (fun q => by cases q)
        refine named hc ((PySem.W.exm_one (M := model X.prog X.w) J3.kIn typ hb1).here ?_)
        cases b with
        | true =>
          refine codeAny_handlers_suite (HandSPX.lands_againZ fl3 fun h4 fl4 up4 => ?_)
          have J4 : Inv X pins σ' H' { s' with heap := h4 } := J.landed nb fl4.1
            ((up.trans up3).trans up4) os ag
          obtain ⟨oe4, vs4, he4, hz4, hd4⟩ := fl4.there
          have S4 := J4.suite he4 hd4 na nL nF
          refine wpAny_mono ((hsu a oe4 cls d (X.pn ++ pins) hz4 ⟨_, hd4⟩).run [] _ _ H' _ S4 (yes rfl a na)) (fun f s6 hsp => ?_)
            (fun _ _ z => False.elim z)
          cases f with
          | next => exact hsp.imp fun _ ⟨H6, S6, q6⟩ => ⟨H6, S6.unsuite ok, q6⟩
          | brk => exact hsp.imp fun _ ⟨H6, S6, q6⟩ => ⟨H6, S6.unsuite ok, q6⟩
          | cont => exact hsp.imp fun _ ⟨H6, S6, q6⟩ => ⟨H6, S6.unsuite ok, q6⟩
          | ret u => exact hsp.imp fun _ ⟨σ6, H6, S6, r6, q6⟩ => ⟨σ6, H6, S6.unsuite ok, r6, q6⟩
        | false =>
          show wpAny _ X.A (handleBy (.ref a) X.env hds2) _ _ _
          exact ih (no rfl)
      | @as x n i c ts b₀ suite np pos' hds2 l2 hi hln hc hsu r ih =>
        intro wish
        obtain ⟨b, hb1, yes, no⟩ := wish
        refine wpAny_handleBy_cons (codeAny_handlers_test ?_) (fun q => by cases q)
        refine named hc ((PySem.W.exm_one (M := model X.prog X.w) J3.kIn typ hb1).here ?_)
        cases b with
        | true =>
          refine codeAny_handlers_suite_as (HandSPX.lands_againZ fl3 fun h4 fl4 up4 => ?_)
          have J4 : Inv X pins σ' H' { s' with heap := h4 } := J.landed nb fl4.1
            ((up.trans up3).trans up4) os ag
          obtain ⟨oe4, vs4, he4, hz4, hd4⟩ := fl4.there
          have S4 := J4.suite he4 hd4 na nL nF
          have hloc : Loc X.env.scope n := Or.inl hln
          refine store_ok (X := X.suite a ((a, oe4) :: (X.pn ++ pins))) (v := .ref a) S4 nd hi hloc rfl (fun s5 S5 => ?_)
            (Or.inr hln)
          refine wpAny_mono ((hsu a oe4 cls d (X.pn ++ pins) hz4 ⟨_, hd4⟩).run [] s5 _ H' _ S5 (yes rfl a na))
            (fun f s6 hsp => ?_) (fun _ _ z => False.elim z)
          have fin : ∀ {σ6 : L2.St} {H6 : Hp} {Q : Shared → Prop}, Inv (X.suite a ((a, oe4) :: (X.pn ++ pins))) [] σ6 H6 s6 → (∀ s7, Inv X pins (σ6.set i none) H6 s7 → Q s7) →
              wpAny (model X.prog X.w) X.A (do bindName X.env n .none; unbindBehindTheSuite X.env n pos') (fun _ s7 => Q s7) X.xe s6 :=
            fun {_ _ _} S6 hq => gone_ok (S6.unsuite ok) nd hi hln hq
          cases f with
          | next =>
            obtain ⟨σ6, H6, S6, q6⟩ := hsp
            exact fin S6 fun s7 J7 => ⟨σ6.set i none, H6, J7, q6⟩
          | brk =>
            obtain ⟨σ6, H6, S6, q6⟩ := hsp
            exact fin S6 fun s7 J7 => ⟨σ6.set i none, H6, J7, q6⟩
          | cont =>
            obtain ⟨σ6, H6, S6, q6⟩ := hsp
            exact fin S6 fun s7 J7 => ⟨σ6.set i none, H6, J7, q6⟩
          | ret u =>
            obtain ⟨v6, σ6, H6, S6, r6, q6⟩ := hsp
            exact fin S6 fun s7 J7 => ⟨v6, σ6.set i none, H6, J7, r6, q6⟩
        | false =>
          show wpAny _ X.A (handleBy (.ref a) X.env hds2) _ _ _
          exact ih (no rfl)
    exact go clauses wish
  refine wpAny_mono (inBody.run [] s σ H D (I.toTry _) want) (fun f s1 hsp => ?_) (fun e s1 he => he)
  cases f with
  | next => exact wpAny_execs_nil (hsp.imp fun _ ⟨H', J', q⟩ => ⟨H', J'.ofTry ok, q⟩)
  | brk => exact hsp.imp fun _ ⟨H', J', q⟩ => ⟨H', J'.ofTry ok, q⟩
  | cont => exact hsp.imp fun _ ⟨H', J', q⟩ => ⟨H', J'.ofTry ok, q⟩
  | ret u => exact hsp.imp fun _ ⟨σ', H', J', r, q⟩ => ⟨σ', H', J'.ofTry ok, r, q⟩
end
end My

/-! try: .. except (C1, .., Cn) as e: x = e. The exception that is caught stands as a value of its own. -/
namespace My
open PySem PySem.Spec PyProof.Rows L2
theorem flyZ_keep {B h h' : Heap} {l : List Env} {a : Addr} {Z : Obj → Prop} (f : HandSPX.FlyingZ B l a Z h) (k : ∀ b o, h.get? b = some o → h'.get? b = some o) : HandSPX.FlyingZ B l a Z h' := by
  obtain ⟨g1, g2, g3, oe, vs, T, oT, ts, he, hz, hd, h1, hnT, hTe, hT, hdT, h3⟩ := f
  exact ⟨fun b o q => k b o (g1 b o q), g2, g3.of_keeps fun b o q _ => ⟨o, k b o q, rfl⟩, oe, vs, T, oT, ts, k _ _ he, hz, hd, h1, hnT, hTe, k _ _ hT, hdT, h3⟩
section
variable {M : Model} {K : PySem.W.Frag}
/-- which of the classes are asked, one by one -/
def exmEach (K : PySem.W.Frag) (cls : Value) : List Value → List Bool → Prop
  | [], [] => True
  | c :: r, b :: q => PySem.W.exmOne K cls c = some b ∧ exmEach K cls r q
  | _, _ => False
theorem each_exc {h : Heap} {cls : Value} (X : K.In h) {T : Value → Sem (ForInStep PUnit)} {A : Around} {E : Value → Shared → Prop} {Q : PUnit → Shared → Prop} {s : Shared} (k : ∀ b o, h.get? b = some o → s.heap.get? b = some o) (q : Q PUnit.unit s) :
    ∀ {cs : List Value} {bs : List Bool}, exmEach K cls cs bs →
    wpAny M A (forIn cs PUnit.unit fun c _ => do
      let d ← isExcClass c
      if (!d) = true then T c else pure (ForInStep.yield PUnit.unit)) Q E s
  | [], [], _ => by
    simp only [List.forIn_nil]
    exact wpAny_pure q
  | c :: r, b :: bs, hc => by
    obtain ⟨e1, S1⟩ := PySem.W.exm_cls (M := M) X hc.1
    rw [List.forIn_cons]
    refine wpAny_bind (wpAny_bind ((e1.keeps k).here ?_))
    rw [show (!true) = false from rfl, if_neg Bool.false_ne_true]
    refine wpAny_pure ?_
    exact each_exc X k q hc.2
  | [], _ :: _, hc => hc.elim
  | _ :: _, [], hc => hc.elim
theorem each_sub {h : Heap} {cls : Value} (X : K.In h) {A : Around} {E : Value → Shared → Prop} {Q : Option Bool × Unit → Shared → Prop} {s : Shared} (k : ∀ b o, h.get? b = some o → s.heap.get? b = some o) :
    ∀ {cs : List Value} {bs : List Bool}, exmEach K cls cs bs → Q (if bs.any id = true then some true else none, ()) s →
    wpAny M A (forIn cs ((none : Option Bool), ()) fun c _ => do
        let d ← isSubtype cls c
        if d = true then pure (ForInStep.done (some true, ())) else pure (ForInStep.yield (none, ()))) Q E s
  | [], [], _, q => by
    simp only [List.forIn_nil]
    exact wpAny_pure q
  | c :: r, b :: bs, hc, q => by
    obtain ⟨e1, S1⟩ := PySem.W.exm_cls (M := M) X hc.1
    rw [List.forIn_cons]
    refine wpAny_bind (wpAny_bind ((S1.keeps k).here ?_))
    cases b with
    | true =>
      rw [if_pos rfl]
      exact wpAny_pure (wpAny_pure q)
    | false =>
      rw [if_neg Bool.false_ne_true]
      exact wpAny_pure (each_sub X k (A := A) (E := E) (Q := Q) hc.2 q)
  | [], _ :: _, hc, _ => hc.elim
  | _ :: _, [], hc, _ => hc.elim
theorem exm_list {cls : Value} {tp e : Addr} {cs : List Value} {bs : List Bool} {h : Heap} (X : K.In h) (LT : PySem.W.Looks M h (typeOf (.ref e)) cls) (hp : h.get? tp = some { cls := .type "tuple", data := .seq cs.toArray }) (hx : exmEach K cls cs bs) :
    PySem.W.Looks M h (excMatches (.ref e) (.ref tp)) (bs.any id) := by
  intro A Q E s k q
  have LT0 : PySem.W.Looks M h (isInstance (.ref tp) (.type "tuple")) true := ((PySem.W.Looks.ld hp).andThen .now).andThen (PySem.W.Looks.of_pure isSubtype_tuple_tuple)
  unfold excMatches
  refine wpAny_bind ((LT0.keeps k).here ?_)
  rw [if_pos rfl]
  refine wpAny_bind (wpAny_seqItems (k _ _ hp) rfl ?_)
  dsimp only [Option.getD_some, Option.getD]
  refine wpAny_bind (wpAny_pure ?_)
  refine wpAny_bind (each_exc X k ?_ hx)
  refine wpAny_bind ((LT.keeps k).here ?_)
  refine wpAny_bind (each_sub X k hx ?_)
  cases he : bs.any id with
  | true =>
    rw [he] at q
    exact wpAny_pure q
  | false =>
    rw [he] at q
    exact wpAny_pure q
end
end My

namespace My
open PySem PySem.Spec PyProof.Rows L2
/-- at a: an exception that was caught, of the class cls, its dict -/
def exT (a : Addr) (cls : Value) (d : Option Addr) : HO := .ext fun h => ∃ (oe : Obj) (vs : Array Value), h.get? a = some oe ∧ Zc cls d oe ∧ oe.data = .fields vs
theorem exT_ne {a : Addr} {cls : Value} {d : Option Addr} {u : HO} (h : ∀ φ, u ≠ .ext φ) : exT a cls d ≠ u := fun z => by
  have z' : HO.ext _ = u := z
  exact h _ z'.symm
theorem exT_ok {P : Program} {w : World} {H : Hp} {h : Heap} {a : Addr} {cls : Value} {d : Option Addr} {oe : Obj} {vs : Array Value} (e : h.get? a = some oe) (z : Zc cls d oe) (f : oe.data = .fields vs) : ObjOk P w H h a (exT a cls d) :=
  ⟨⟨oe, vs, e, z, f⟩, ⟨oe, e⟩, fun h1 h2 q k => by
    obtain ⟨o, v, e1, e2, e3⟩ := q
    exact ⟨o, v, k _ e1, e2, e3⟩⟩
theorem exT_at {P : Program} {w : World} {H : Hp} {h : Heap} {a : Addr} {cls : Value} {d : Option Addr} (hok : HOk P w H h) (e : H a = some (exT a cls d)) : ∃ (oe : Obj) (vs : Array Value), h.get? a = some oe ∧ Zc cls d oe ∧ oe.data = .fields vs := by
  have x : ObjOk P w H h a (.ext fun h => ∃ (oe : Obj) (vs : Array Value), h.get? a = some oe ∧ Zc cls d oe ∧ oe.data = .fields vs) := hok a _ e
  exact x.1
/-- an object that nobody knows yet is known from now on -/
theorem inv_adopt {X : Cx} {pins : List (Addr × Obj)} {σ : L2.St} {H : Hp} {s : Shared} {a : Addr} {u : HO} (I : Inv X pins σ H s) (hn : H a = none) (h0 : X.s_0.heap.get? a = none) (hl : a ≠ X.env.locals)
    (hc : ∀ x c, X.env.cells.lookup x = some c → c ≠ a) (hp : ∀ p ∈ X.pn ++ pins, p.1 ≠ a) (ok : ObjOk X.prog X.w (upd H a u) s.heap a u) : Inv X pins σ (upd H a u) s where
  ok := I.ok
  os := I.os
  bare := I.bare
  base := {
    keep := I.base.keep
    slot := I.base.slot
    free := fun b o e n x => by
      have nb : b ≠ a := fun z => by
        rw [z, h0] at e
        cases e
      rw [upd_ne nb]
      exact I.base.free b o e n x
    there := I.base.there
    tups := fun b xs e => by
      have q := I.base.tups b xs e
      rw [upd_ne (ne_of_none q hn)]
      exact q
    frzs := fun b o v e => by
      have q := I.base.frzs b o v e
      rw [upd_ne (ne_of_none q hn)]
      exact q
    tbls := fun b ps e => by
      obtain ⟨more, q⟩ := I.base.tbls b ps e
      refine ⟨more, ?_⟩
      rw [upd_ne (ne_of_none q hn)]
      exact q }
  loc := I.loc
  cell := I.cell
  free := by
    rw [upd_ne (Ne.symm hl)]
    exact I.free
  freeC := fun x c e => by
    rw [upd_ne (hc x c e)]
    exact I.freeC x c e
  pin := fun p m => by
    obtain ⟨p1, p2, p3⟩ := I.pin p m
    refine ⟨p1, ?_, p3⟩
    rw [upd_ne (hp p m)]
    exact p2
  hok := fun b o e => by
    by_cases hb : b = a
    · rw [hb, upd_same] at e
      cases e
      rw [hb]
      exact ok
    · rw [upd_ne hb] at e
      exact (I.hok b o e).stay (fun _ _ _ q => q) (fun c q => by rw [upd_ne (ne_of_none q hn)]; exact q) fun c xs q => by rw [upd_ne (ne_of_none q hn)]; exact q
  len := I.len
/-- the names of classes, in a tuple -/
def NamesL (X : Cx) : List Expr → List Value → Prop
  | [], [] => True
  | .Name x _ :: es, c :: cs => Names X x c ∧ NamesL X es cs
  | _, _ => False
def wKeep (K : PySem.W.Frag) (Wout : WX) (D : Ends) (n i j : Nat) (cs : List Value) : WX := fun cls d σ H => ∃ bs : List Bool, exmEach K cls cs bs ∧
  (bs.any id = true → σ.length = n → ∀ a, H a = none → D.nx (((σ.set i (some (.ref a))).set j (some (.ref a))).set i none) (upd H a (exT a cls d))) ∧ (bs.any id = false → Wout cls d σ H)
section
variable {X : Cx} {body : List Stmt} {elts : List Expr} {cs : List Value} {n c : Str} {i j kk : Nat} {tpos pos' apos cp np pos : Pos} {tb : WX → L2.TS} {Wout : WX}
theorem ps_try_keep (hex : X.ex = []) (stk : X.stack = X.env :: X.outer) (frm : X.env.frame = some X.env.locals) (nd : X.N.Nodup) (hi : X.N[i]? = some n) (hln : X.env.kindOf n = some .local) (hj : X.N[j]? = some c) (hlc : X.env.kindOf c = some .local) (hij : i ≠ j)
    (hdn : (n == ("__debug__" : Str)) = false) (hcn : (n == ("__classdict__" : Str)) = false) (names : NamesL X elts cs) (hsz : cs.length ≤ sizeLine) (out : Takes X Wout)
    (hb : ∀ (W : WX) (pn : List (Addr × Obj)) (xe : Value → Shared → Prop), Takes (X.tr pn xe) W → PassesOwn (model X.prog X.w) X.A X.env xe → PSs (X.tr pn xe) body (tb W)) :
    PS X (.Try body [.ExceptHandler (some (.Tuple elts kk tpos)) (some n) [.Assign [.Name c cp] (.Name n np) apos] pos'] [] [] pos) (fun D σ H => tb (wKeep X.K Wout D X.N.length i j cs) D σ H) := by
  refine ⟨fun pins s σ H D I want => ?_⟩
  have ok := I.ok
  have frames : X.A.frames = some (X.env :: X.outer) := by rw [ok.frames, stk]
  refine wpAny_Try_except ?_
  let hds : List ExceptHandler := [.ExceptHandler (some (.Tuple elts kk tpos)) (some n) [.Assign [.Name c cp] (.Name n np) apos] pos']
  let catcher : Value → Shared → Prop := fun e s₁ => wpAny (model X.prog X.w) X.A (noteFrame e X.env) (fun _ s₂ =>
    wpAny (model X.prog X.w) X.A (setFlight e none) (fun _ s₃ => wpAny (model X.prog X.w) X.A (handleBy e X.env hds) (SP X pins D) X.xe s₃) X.xe s₂) X.xe s₁
  have inBody := hb (wKeep X.K Wout D X.N.length i j cs) (X.pn ++ pins) catcher (fun u s' xx => ?caught) PassesOwn.looking
  case caught =>
    obtain ⟨a, B, sI, pins', σ', H', cls, d, rfl, J', nb, up, sky, na, os, ag, wish⟩ := xx
    have J : Inv X pins σ' H' sI := J'.ofTry ok
    have sky' : Sky B (X.env :: X.outer) a (Zc cls d) X.env.locals s'.heap := stk ▸ sky
    show wpAny (model X.prog X.w) X.A (noteFrame (.ref a) X.env) _ _ _
    refine Sky.land Zc.steady frames frm sky' fun h3 fl3 up3 => ?_
    have J3 : Inv X pins σ' H' { s' with heap := h3 } := J.landed nb fl3.1 (up.trans up3) os ag
    obtain ⟨oe3, vs3, he3, hz3, hd3⟩ := fl3.there
    have noFrame : a ∉ frs (X.env :: X.outer) := fun hm => by
      obtain ⟨_, o', e', hnf⟩ := fl3.2.2.1.mem hm
      rw [he3] at e'
      cases e'
      exact hnf _ hd3
    have nL : a ≠ X.env.locals := fun z => noFrame (List.mem_filterMap.mpr ⟨X.env, List.mem_cons_self, by rw [frm, z]⟩)
    have nF : a ∉ X.fs := fun hm => by
      obtain ⟨e, he, q⟩ := List.mem_filterMap.mp hm
      exact noFrame (List.mem_filterMap.mpr ⟨e, List.mem_cons_of_mem _ he, q⟩)
    -- the exception is new
    have inStk : ∀ b, b ∈ frs X.stack → b = X.env.locals ∨ b ∈ X.fs := fun b hm => by
      rw [stk] at hm
      obtain ⟨e, he, q⟩ := List.mem_filterMap.mp hm
      rcases List.mem_cons.mp he with z | z
      · rw [z, frm] at q
        exact .inl (Option.some.inj q).symm
      · exact .inr (List.mem_filterMap.mpr ⟨e, z, q⟩)
    have notI : ∀ o, sI.heap.get? a = some o → False := fun o q => by
      have q2 := nb a o q (stk ▸ noFrame)
      rw [fl3.2.1] at q2
      cases q2
    have h0 : X.s_0.heap.get? a = none := by
      cases q : X.s_0.heap.get? a with
      | none => rfl
      | some o =>
        obtain ⟨o', q'⟩ := J.base.there a o q (by rw [hex]; simp)
        exact (notI o' q').elim
    have hpn : ∀ p ∈ X.pn ++ pins, p.1 ≠ a := fun p hm z => by
      obtain ⟨p1, _⟩ := J.pin p hm
      rw [z] at p1
      exact notI _ p1
    have typ : ∀ {h : Heap}, (∀ b o, h3.get? b = some o → h.get? b = some o) → PySem.W.Looks (model X.prog X.w) h (typeOf (.ref a)) cls := fun {h} kh A Q E s k q =>
      wpAny_typeOf_ref (k _ _ (kh _ _ he3)) (by rw [hz3.1]; exact q)
    obtain ⟨bs, hbs, yes, no⟩ := wish
    have S3 := J3.suite he3 hd3 na nL nF
    have named : ∀ {x : Str} {c : Value} {np : Pos}, Names X x c → ∀ {Q : Value → Shared → Prop} {E : Value → Shared → Prop}, Q c { s' with heap := h3 } →
        wpAny (model X.prog X.w) (X.A.mark (some (.ref a))) (eval (.Name x np) X.env) Q E { s' with heap := h3 } := by
      intro x c np hc Q E q
      obtain ⟨hg, hdbg, hm | ⟨hm, hv, hnn⟩⟩ := hc
      · exact ld_glob (X := X.suite a ((a, oe3) :: (X.pn ++ pins))) S3 hg hm q hdbg
      · exact ld_blt (X := X.suite a ((a, oe3) :: (X.pn ++ pins))) S3 hg hm hv q hnn hdbg
    let s3 : Shared := { s' with heap := h3 }
    let tpo : Obj := { cls := .type "tuple", data := .seq cs.toArray }
    have kpush : ∀ b o, h3.get? b = some o → (h3.push tpo).get? b = some o := fun _ _ q => Heap.get?_push_of_some _ q
    -- the tuple of the classes
    have tupled : ∀ {Q : Value → Shared → Prop} {E : Value → Shared → Prop}, Q (.ref h3.objs.size) { s' with heap := h3.push tpo } →
        wpAny (model X.prog X.w) (X.A.mark (some (.ref a))) (eval (.Tuple elts kk tpos) X.env) Q E s3 := by
      intro Q E q
      refine wpAny_Tuple ?_
      have go : ∀ (es : List Expr) (ds : List Value), NamesL X es ds → ∀ {R : List Value → Shared → Prop}, R ds s3 → wpAny (model X.prog X.w) (X.A.mark (some (.ref a))) (spliced (backTo tpos (starEach es X.env))) R E s3 := by
        intro es ds
        induction es generalizing ds with
        | nil =>
          intro hn R r
          match ds, hn with
          | [], _ => exact wpAny_items_nil r
        | cons e es ih =>
          intro hn R r
          match e, ds, hn with
          | .Name x p, c0 :: ds, hn => exact wpAny_items_cons (named hn.1 (ih ds hn.2 (R := fun vs s₂ => R (c0 :: vs) s₂) r))
      exact go elts cs names ⟨hsz, q⟩
    refine wpAny_handleBy_cons (codeAny_handlers_test ?_) (fun q => by cases q)
    refine tupled ((exm_list (M := model X.prog X.w) (h := h3.push tpo) (J3.kIn.keeps kpush) (typ kpush) (Heap.get?_push_size h3 rfl) hbs).here ?_)
    have J4 : Inv X pins σ' H' { s' with heap := h3.push tpo } := J3.kept kpush
    have fl4 := flyZ_keep fl3 kpush
    have up4 : s'.heap.UpToSlots (h3.push tpo) := fun b o e nf => by
      obtain ⟨sl, q⟩ := up3 b o e nf
      exact ⟨sl, kpush _ _ q⟩
    cases hany : bs.any id with
    | true =>
      refine codeAny_handlers_suite_as (HandSPX.lands_againZ fl4 fun h5 fl5 up5 => ?_)
      have J5 : Inv X pins σ' H' { s' with heap := h5 } := J.landed nb fl5.1 ((up.trans up4).trans up5) os ag
      obtain ⟨oe5, vs5, he5, hz5, hd5⟩ := fl5.there
      have S5 := J5.suite he5 hd5 na nL nF
      have hloc : Loc X.env.scope n := Or.inl hln
      refine store_ok (X := X.suite a ((a, oe5) :: (X.pn ++ pins))) (v := .ref a) S5 nd hi hloc rfl (fun s6 S6 => ?_) (Or.inr hln)
      have asg : PSs (X.suite a ((a, oe5) :: (X.pn ++ pins))) [.Assign [.Name c cp] (.Name n np) apos] _ := pss_one (ps_set (i := j) nd hj (Or.inl hlc) (pe_var (i := i) hi (.inl hln) hdn hcn) (hf := Or.inr hlc))
      refine wpAny_mono (asg.run [] s6 _ H' { nx := fun σ6 H6 => σ6 = (σ'.set i (some (.ref a))).set j (some (.ref a)) ∧ H6 = H', rt := fun _ _ => False } S6 ?_) (fun f s7 hsp => ?_) (fun _ _ z => False.elim z)
      · have hlen : i < σ'.length := by
          rw [J.len]
          exact (List.getElem?_eq_some_iff.mp hi).1
        exact ⟨.ref a, by rw [List.getElem?_set_self hlen], rfl, rfl⟩
      cases f with
      | next =>
        obtain ⟨σ7, H7, S7, e7, e8⟩ := hsp
        subst e7 e8
        have pin7 := (S7.pin (a, oe5) (List.mem_append_left _ List.mem_cons_self)).1
        have J7 := S7.unsuite ok
        have hcell : ∀ x c, X.env.cells.lookup x = some c → c ≠ a := fun x c e z => by
          obtain ⟨v, o, ho, hd⟩ := J7.cell x c e
          rw [z, pin7] at ho
          cases ho
          rw [hd5] at hd
          cases hd
        have J8 := inv_adopt (u := exT a cls d) J7 na h0 nL hcell hpn (exT_ok pin7 hz5 hd5)
        exact gone_ok J8 nd hi hln fun s8 J9 => ⟨_, _, J9, yes hany J.len a na⟩
      | brk =>
        obtain ⟨_, _, _, q⟩ := hsp
        exact (show False from q).elim
      | cont =>
        obtain ⟨_, _, _, q⟩ := hsp
        exact (show False from q).elim
      | ret u =>
        obtain ⟨_, _, _, _, _, q⟩ := hsp
        exact (show False from q).elim
    | false =>
      show wpAny _ X.A (handleBy (.ref a) X.env []) _ _ _
      refine wpAny_handleBy_nil ?_
      obtain ⟨k1, k2, k3, oe, vs, T, oT, ts', he, hz, hd, h1, hr⟩ := id fl4
      unfold PySem.passOn
      refine wpAny_bind (wpAny_field he hd h1 ?_)
      rw [if_neg (show ¬ ((Value.ref T == Value.none) = true) from by simp)]
      have away : wpAny (model X.prog X.w) X.A (setFlight (.ref a) X.env.frame) (fun _ s4 => wpAny (model X.prog X.w) X.A (throw (.ref a) : Sem Flow) (SP X pins D) X.xe s4) X.xe
          { s' with heap := h3.push tpo } := by
        rw [frm]
        refine HandSPX.setFlight_upZ fl4 fun h5 hh5 up5 => wpAny_throw (out _ _ ?_)
        exact ⟨a, B, sI, pins, σ', H', cls, d, rfl, J, nb, (up.trans up4).trans up5, .inr (.inr (by rw [stk]; exact hh5)), na, os, ag, no hany⟩
      first
        | exact wpAny_bind (wpAny_pure (wpAny_bind away))
        | exact wpAny_bind away
  refine wpAny_mono (inBody.run [] s σ H D (I.toTry _) want) (fun f s1 hsp => ?_) (fun e s1 he => he)
  cases f with
  | next => exact wpAny_execs_nil (hsp.imp fun _ ⟨H', J', q⟩ => ⟨H', J'.ofTry ok, q⟩)
  | brk => exact hsp.imp fun _ ⟨H', J', q⟩ => ⟨H', J'.ofTry ok, q⟩
  | cont => exact hsp.imp fun _ ⟨H', J', q⟩ => ⟨H', J'.ofTry ok, q⟩
  | ret u => exact hsp.imp fun _ ⟨σ', H', J', r, q⟩ => ⟨σ', H', J'.ofTry ok, r, q⟩
end
end My

/-! isinstance and the fields of an exception that stands as a value. -/
namespace My
open PySem PySem.Spec PyProof.Rows L2
open PySem.W in
theorem find_cls {K : Frag} {C : Addr} {od : Option Obj} {a g : Value} (hc : (clsIn K C).isSome = true) (ha : findIn K (.ref C) "__class__" = some (some a)) (hg : specialIn K a "__get__" = some (some g)) (ht : takesIn K a = some true) :
    findObj K C od "__class__" = some (.bind g a) := by
  obtain ⟨cd, hcd⟩ := Option.isSome_iff_exists.mp hc
  unfold findObj
  rw [hcd, Option.bind_some, ha, Option.bind_some]
  simp [hg, ht]
section
open PySem.W PySem.Calls
variable {prog : Program} {w : World} {A : Around} {E : Value → Shared → Prop} {s : Shared} {K : Frag} {x D : Addr} {ox : Obj} {od : Option Obj}
/-- e.__class__ of an exception with a dict of its own -/
theorem cls_attr {Q : Option Value → Shared → Prop} (C : ExcC K D) (X : K.In s.heap) (I : InstAt s.heap x ox D od) (h : Q (some (.ref D)) { s with toks := s.toks + 1 }) : wpAny (model prog w) A (getAttr? (.ref x) "__class__") Q E s := by
  have hf : findObj K D od "__class__" = some (.bind (.builtin "getset_descriptor.__get__") (.builtin "object.__class__")) := find_cls (by obtain ⟨cd, hc, _⟩ := any_some C.hd; rw [hc]; rfl) C.ha C.hn C.ht
  obtain ⟨hp, gs, dr, tk, os⟩ := s
  have l0 := I.type (M := model prog w)
  have l1 := looks_findIn (M := model prog w) X C.hg
  have l2 := looks_findIn (M := model prog w) X C.hk
  have l3 := looks_find (M := model prog w) X I hf
  have isB : Looks (model prog w) hp (isInstance (.ref x) (.type "BaseException")) true := l0.andThen (looks_subIn X C.hs)
  have notO : (Value.builtin "BaseException.__getattribute__" == Value.builtin "object.__getattribute__") = false := by decide +kernel
  unfold getAttr? getAttrBy? getAttrBy
  refine wpAny_bind (wpAny_mkText (wpAny_bind (wpAny_attempt (wpAny_holding (wpAny_bind (l0.at (wpAny_bind (l1.at ?_))))))))
  show wpAny _ _ (if (onTheHeap (Value.ref D) && Value.builtin "BaseException.__getattribute__" == Value.builtin "object.__getattribute__") = true then _ else _) _ _ _
  rw [show (onTheHeap (Value.ref D) && Value.builtin "BaseException.__getattribute__" == Value.builtin "object.__getattribute__") = false by rw [notO]; rfl, if_neg Bool.false_ne_true]
  unfold getAttrByItsOwn hookBefore
  refine wpAny_bind ?_
  rw [if_pos (show onTheHeap (Value.ref D) = true from rfl)]
  refine l2.at (wpAny_bind (wpAny_attempt (wpAny_holding ?_)))
  unfold callGetattribute
  rw [show (false && onTheHeap (Value.builtin "BaseException.__getattribute__")) = false from rfl, if_neg Bool.false_ne_true]
  unfold boundAndCalled
  rw [PySem.F.excAttr_ValueError.ga.bind (.ref x)]
  refine wpAny_bind (wpAny_pure ?_)
  show wpAny _ _ (call (.builtin "BaseException.__getattribute__") [.ref x, .str "__class__" tk]) _ _ _
  refine wpAny_call (codeAny_call_builtin PySem.F.excAttr_ValueError.ga.plain PySem.F.entry_bexc_ga ?_)
  refine @check_slot (model prog w) _ _ ⟨hp, gs, dr, tk + 1, os⟩ "BaseException.__getattribute__" "BaseException" "__getattribute__" (.ref x) [.str "__class__" tk] [] _ (by decide +kernel) (by decide +kernel) isB (PySem.F.args_bexc_ga (.ref x) (.str "__class__" tk)) ?_
  unfold Builtin.«object.__getattribute__»
  refine wpAny_bind (wpAny_of_eq (a := ((Value.ref x : Value), [Value.str "__class__" tk])) (by first | rfl | (simp only [slotArgs]; rfl)) ?_)
  refine wpAny_bind (wpAny_pure (wpAny_bind (l0.at (wpAny_bind (l3.at ?_)))))
  show wpAny _ _ (holding [Value.builtin "object.__class__"] (call (.builtin "getset_descriptor.__get__") [.builtin "object.__class__", .ref x, .ref D]) >>= ret) _ _ _
  refine wpAny_bind (wpAny_holding (wpAny_call (class_get (s := ⟨hp, gs, dr, tk + 1, os⟩) (ox := ox) (od := od) X I C.hm ?_)))
  refine wpAny_pure ?_
  show wpAny _ _ (handedOut (.ref D)) _ _ _
  rw [handedOut_of (v := .ref D) rfl]
  first
    | exact wpAny_pure (wpAny_pure h)
    | exact wpAny_pure h
    | exact wpAny_pure (wpAny_bind (wpAny_pure (wpAny_pure h)))
theorem kitx_exT (C : ExcC K D) : KitX K (.ref x) (.ref D) (fun h => ∃ (ox : Obj) (od : Option Obj), InstAt h x ox D od) where
  ty := fun _ _ _ ⟨_, _, I⟩ => I.type
  it := fun _ _ X _ => by
    obtain ⟨cd, hc, _⟩ := any_some C.hd
    unfold clsIn at hc
    split at hc
    · rename_i ho
      intro A' Q' E' s' k q
      unfold isType loadHead
      exact wpAny_bind (wpAny_loadPart (k _ _ (X _ _ ho)) (wpAny_pure q))
    · cases hc
  ne := fun h tp dd its n sl X htp => by
    obtain ⟨cd, hc, _⟩ := any_some C.hd
    refine Bool.eq_false_iff.mpr fun q => ?_
    have e : D = tp := Value.ref.inj (beq_iff_eq.mp q)
    subst e
    unfold clsIn at hc
    split at hc
    · rename_i ho
      have z := (X _ _ ho).symm.trans htp
      cases z
    · cases hc
  ca := fun X ⟨_, _, I⟩ k => cls_attr C X I k
end
/-- an exception of the class at D, its dict at dd -/
def Exc (H : Hp) (a D : Addr) (d : Option Addr) : Prop := H a = some (exT a (.ref D) d)
theorem inst_exT {X : Cx} {pins : List (Addr × Obj)} {σ : L2.St} {H : Hp} {s : Shared} {a D : Addr} {d : Option Addr} (I : Inv X pins σ H s) (h : Exc H a D d) (hd : ∀ dd, d = some dd → ∃ fs, H dd = some (.xd fs)) :
    ∃ ox od, PySem.W.InstAt s.heap a ox D od := by
  obtain ⟨oe, vs, he, hz, hv⟩ := exT_at I.hok h
  obtain ⟨z1, z2⟩ := hz
  cases d with
  | none =>
    refine ⟨oe, none, ?_⟩
    obtain ⟨oc, odd, oda, osl⟩ := oe
    dsimp only at z1 z2 hv
    subst z1 z2 hv
    exact ⟨he, rfl, rfl, trivial⟩
  | some dd =>
    obtain ⟨fs, hfs⟩ := hd dd rfl
    obtain ⟨mA, hns, hr⟩ := (I.hok dd _ hfs : ObjOk X.prog X.w H s.heap dd (.xd fs))
    obtain ⟨od, ho, _⟩ := lookIn_ns hns
    refine ⟨oe, some od, he, z1, ?_, ?_⟩
    · unfold PySem.W.notCls
      rw [hv] <;> rfl
    · rw [z2]
      exact ho
def rIsT (K : PySem.W.Frag) : List V → Hp → VK → Prop := fun xs H Q => ∃ (a D : Addr) (d : Option Addr) (c : V) (cv : Value) (b : Bool), xs = [.ref a, c] ∧ Exc H a D d ∧ (∀ dd, d = some dd → ∃ fs, H dd = some (.xd fs)) ∧ ExcC K D ∧ (∀ u, RelV c u → u = cv) ∧
  PySem.W.kitOne K (.ref D) cv = some b ∧ Q (.bl b) H
theorem call_isT {X : Cx} : CallR X (.builtin "isinstance") (rIsT X.K) := by
  intro pins s σ H xs us Q I r h
  obtain ⟨a, D, d, c, cv, b, rfl, he, hd, C, hcv, e, q⟩ := h
  cases r with
  | cons rx rr =>
    cases rr with
    | cons rt rr =>
      cases rr
      cases rx
      have ec := hcv _ rt
      subst ec
      exact PySem.W.kia_one (kitx_exT C) I.kIn (inst_exT I he hd) e (fun z => nomatch z) fun tk => ⟨.bl b, H, I.kept (t' := tk) fun _ _ z => z, rfl, q⟩
def tXfT (K : PySem.W.Frag) (f : Str) (te : TE) : TE := fun σ H Q => te σ H fun x H1 => ∃ (a D dd : Addr) (fs : List (Str × V)) (v : V), x = .ref a ∧ Exc H1 a D (some dd) ∧ H1 dd = some (.xd fs) ∧ XfC K D ∧ PySem.W.findIn K (.ref D) f = some none ∧ fs.lookup f = some v ∧ Q v H1
theorem pe_xfT {X : Cx} {e : Expr} {te : TE} {pos : Pos} {n : Str} (he : PE X e te) (hb : attributeBase e n X.env (eval e X.env) = eval e X.env := by rfl) : PE X (.Attribute e n pos) (tXfT X.K n te) := by
  refine ⟨fun pins s σ H Q I h => ?_⟩
  refine attr_of hb (thn (he.run pins s σ H _ I h) fun u s1 hh => ?_)
  obtain ⟨x, H1, I1, rx, a, D, dd, fs, v, ex, hexc, ea, T, hno, l, q⟩ := hh
  subst ex
  obtain rfl : u = Value.ref a := rx
  obtain ⟨oe, vs, ha, hz, hd⟩ := exT_at I1.hok hexc
  obtain ⟨mA, hns, hr⟩ := (I1.hok dd _ ea : ObjOk X.prog X.w H1 s1.heap dd (.xd fs))
  obtain ⟨od, ho, hl⟩ := lookIn_ns hns
  obtain ⟨u, hu, ru⟩ := RelO.some_of (v := v) (o := mA n) (by rw [← l]; exact hr n)
  have J : PySem.W.InstAt s1.heap a oe D (some od) := ⟨ha, hz.1, by unfold PySem.W.notCls; rw [hd] <;> rfl, by rw [hz.2]; exact ho⟩
  exact HandSPX.exc_get I1.kIn J T.ga T.gg T.exC (PySem.W.findObj_own T.hdC hno rfl (by rw [hl, hu])) (handed_of ru) ⟨v, H1, I1.tok _, ru, q⟩
end My

/-! The end of a law that makes lambdas, whose promise is asked where no guard stands: its code object's table of code objects grows. -/
namespace My
open PySem PySem.Spec PyProof.Rows L2 LamX
/-- nothing stands but the script and the table at P -/
def OnlyT (P : Addr) (H : Hp) : Prop := ∀ b, H b = none ∨ b = P ∨ ∃ o xs, H b = some (.frz o (.lst xs))
abbrev tabO (ps : Array Value) : Obj := { cls := .none, data := .fields ps }
theorem law_callGT {Pr : Program} {w : World} {K : PySem.W.Frag} {mg mb : Str → Option Value} {k : Nat} {fa a c P : Addr} {fd : FuncData} {x : Str} {sp : Sp} {s₁ : Shared} {vs : List Value} {ns : List Int}
    (inK : K.In s₁.heap) (glob : s₁.heap.Ns mainGlobals mg) (blt : s₁.heap.Ns builtinsNs mb) (boot : ∀ x : Str, x ≠ "__name__" → mb x = bootBuiltins x) (nolim : s₁.heap.NoLimit) (nogen : s₁.gens = #[])
    (hT : s₁.heap.get? P = some (tabO #[])) (nT : K.lookup P = none) (C : PySem.W.CodeHd s₁.heap c P)
    (hbm : ∃ (bm : Addr) (ob : Obj), mg "__builtins__" = some (.ref bm) ∧ bm ≠ builtinsNs ∧ s₁.heap.get? bm = some ob ∧ ob.cls = .type "module" ∧ ob.dict = some builtinsNs ∧ ob.data = .plain)
    (hobj : s₁.heap.get? a = some { cls := .type "list", data := .seq vs.toArray }) (hints : IntsAre vs ns) (hlen : ns.length ≤ sizeLine) (room : Room k callerA)
    (F : ∀ base : Heap, K.In base → base.Ns mainGlobals mg → TabB base mg c P → FnG Pr w K mg base k fa fd [x] sp) (binds : ∀ (s : Shared) (u : Value), BindsTo s fd ⟨[u], []⟩ [(x, u)])
    (want : ∀ H : Hp, H P = some (.tbl #[]) → SqL K H a (ns.map V.int) → sp [.ref a] H (fun v _ => v = .bl true) fun _ _ _ => False) :
    codeAny (model Pr w) callerA (.call (.ref fa) ⟨[.ref a], []⟩) (fun r s' => r = .ok (.ret (.bool true)) ∧ OldK s₁.heap s'.heap ∧ s'.os = s₁.os ∧ AllBare s'.gens) s₁ := by
  have relv := vals_ints hints
  have naP : a ≠ P := fun z => by
    rw [z, hT] at hobj
    have z' : Data.fields #[] = Data.seq vs.toArray _ := congrArg Obj.data (Option.some.inj hobj)
    cases z'
  have core : ∀ H : Hp, H P = some (.tbl #[]) → OnlyT P H → SqL K H a (ns.map V.int) → HOk Pr w H s₁.heap → (∀ b, H b ≠ none → b = a ∨ b = P) → (H a ≠ none → K.lookup a = none) →
      codeAny (model Pr w) callerA (.call (.ref fa) ⟨[.ref a], []⟩) (fun r s' => r = .ok (.ret (.bool true)) ∧ OldK s₁.heap s'.heap ∧ s'.os = s₁.os ∧ AllBare s'.gens) s₁ := by
    intro H hP only seq ok one notK
    have up : ∀ {b : Addr} {o : Obj}, s₁.heap.get? b = some o → H b = none → (hidT s₁.heap H).get? b = some o := fun e n => hidT_get e n
    -- what is neither a list nor a table is not tracked
    have out : ∀ {b : Addr} {o : Obj}, s₁.heap.get? b = some o → (∀ vs n, o.data ≠ .seq vs n) → o.data ≠ .fields #[] → H b = none := by
      intro b o e h1 h2
      cases q : H b with
      | none => rfl
      | some u =>
        rcases one b (fun z => by rw [q] at z; cases z) with z | z
        · rw [z, hobj] at e
          cases e
          exact (h1 _ _ rfl).elim
        · rw [z, hT] at e
          cases e
          exact (h2 rfl).elim
    have outD : ∀ {b : Addr} {o : Obj} {es : Array DictEntry} {ep : Nat}, s₁.heap.get? b = some o → o.data = .dict es ep → H b = none := fun {b o es ep} e d =>
      out e (fun vs n z => by rw [d] at z; cases z) (fun z => by rw [d] at z; cases z)
    have nsUp : ∀ {b : Addr} {m : Str → Option Value}, s₁.heap.Ns b m → (hidT s₁.heap H).Ns b m :=
      fun {_ _} ⟨o, es, ep, e, d, r⟩ => ⟨o, es, ep, up e (outD e d), d, r⟩
    have kUp : K.In (hidT s₁.heap H) := by
      intro b o e
      refine up (inK b o e) ?_
      cases q : H b with
      | none => rfl
      | some u =>
        rcases one b (fun z => by rw [q] at z; cases z) with z | z
        · rw [z, notK (fun y => by rw [← z, q] at y; cases y)] at e
          cases e
        · rw [z, nT] at e
          cases e
    have mod : Mod K mg (hidT s₁.heap H) := ⟨kUp, nsUp glob, ⟨mb, nsUp blt, boot⟩, nolim.imp fun mc z => ⟨nsUp z.1, z.2⟩⟩
    have tb : TabB (hidT s₁.heap H) mg c P := by
      refine ⟨?_, ?_, fun z => ?_⟩
      · obtain ⟨o, us, file, tf, flags, tg, inF, text, tt, e1, r1, r2, r3, r⟩ := C
        refine ⟨o, us, file, tf, flags, tg, inF, text, tt, up e1 (out e1 (fun vs n z => ?_) fun z => ?_), r1, r2, r3, r⟩
        · rw [r2] at z
          cases z
        · rw [r2] at z
          cases z
          simp at r3
      · obtain ⟨bm, ob, b1, b2, b3, b4, b5, b6⟩ := hbm
        have nG : bm ≠ mainGlobals := fun q => by
          obtain ⟨o, es, ep, e, hd, _⟩ := glob
          rw [q, e] at b3
          cases b3
          rw [hd] at b6
          cases b6
        have nP : bm ≠ P := fun q => by
          rw [q, hT] at b3
          cases b3
          cases b6
        exact ⟨bm, ob, b1, b2, nG, nP, up b3 (out b3 (fun vs n z => by rw [b6] at z; cases z) fun z => by rw [b6] at z; cases z), b4, b5, b6⟩
      · obtain ⟨o, es, ep, e, hd, _⟩ := glob
        rw [z, hT] at e
        cases e
        cases hd
    have env0 : Env0 Pr w K mg (hidT s₁.heap H) callerA [] s₁ H :=
      ⟨rfl, mod, fun b o e => of_hidT e, Nat.le_of_eq (hidT_size _ _), trivial, fun b hb => absurd (show b ∈ ([] : List Addr) from hb) (by simp), ok, .of_eq nogen⟩
    have call := (F _ kUp (nsUp glob) tb).go callerA [] s₁ H ⟨[.ref a], []⟩ [.ref a] [.ref a] _ _ rfl room env0 (binds s₁ (.ref a)) (.cons rfl .nil) (want H hP seq)
    refine codeAny_mono call fun r s' h => ?_
    match r, h with
    | .error e, h => exact (show False from h).elim
    | .ok (.ret u), h =>
      obtain ⟨v, H', os, bare, un, ok', rv, q⟩ := h
      obtain rfl : v = .bl true := q
      obtain rfl : u = Value.bool true := rv
      have stays : ∀ b o, b ≠ P → s₁.heap.get? b = some o → s'.heap.get? b = some o := fun b o nb e => by
        rcases only b with z | z | ⟨ob, xs, z⟩
        · exact un.keep b o e z (fun y => absurd (show b ∈ ([] : List Addr) from y) (by simp)) (by simp)
        · exact absurd z nb
        · obtain ⟨e1, _⟩ := ok b _ z
          obtain ⟨e2, _⟩ := ok' b _ (un.frzs b ob _ z)
          rw [e] at e1
          cases e1
          exact e2
      obtain ⟨more, hm⟩ : ∃ more : Array Value, s'.heap.get? P = some (tabO more) := by
        obtain ⟨more, z⟩ := un.tbls P #[] hP
        exact ⟨_, ok' P _ z⟩
      refine ⟨rfl, ⟨fun b o e => ?_, fun b o e => ?_⟩, os, bare⟩
      · by_cases hb : b = P
        · rw [hb] at e ⊢
          rw [hT] at e
          cases e
          exact .inr (.inl ⟨(C.tab hT).isCodeTable, rfl, #[], more, rfl, by rw [Array.empty_append]; exact hm⟩)
        · exact .inl (stays b o hb e)
      · by_cases hb : b = P
        · rw [hb]
          exact ⟨_, hm⟩
        · exact ⟨o, stays b o hb e⟩
  let t0 : Hp := fun b => if b = P then some (.tbl #[]) else none
  have t0P : t0 P = some (.tbl #[]) := if_pos rfl
  have t0o : ∀ {b}, b ≠ P → t0 b = none := fun h => if_neg h
  cases hk : K.lookup a with
  | some o =>
    have e := inK a o hk
    rw [hobj] at e
    cases e
    have stands : SqL K t0 a (ns.map V.int) := .inr ⟨_, vs.toArray, _, hk, rfl, rfl, rfl, by rw [List.size_toArray, hints.length]; exact hlen, by simpa using relv⟩
    refine core t0 t0P (fun b => ?_) stands (fun b u z => ?_) (fun b z => ?_) fun z => absurd (t0o naP) z
    · by_cases hb : b = P
      · exact .inr (.inl hb)
      · exact .inl (t0o hb)
    · by_cases hb : b = P
      · rw [hb, t0P] at z
        cases z
        rw [hb]
        exact hT
      · rw [t0o hb] at z
        cases z
    · by_cases hb : b = P
      · exact .inr hb
      · exact absurd (t0o hb) z
  | none =>
    let o : Obj := { cls := .type "list", data := .seq vs.toArray }
    let H1 : Hp := fun b => if b = a then some (.frz o (.lst (ns.map V.int))) else t0 b
    have atA : H1 a = some (.frz o (.lst (ns.map V.int))) := if_pos rfl
    have ofA : ∀ {b}, b ≠ a → H1 b = t0 b := fun h => if_neg h
    refine core H1 ((ofA (Ne.symm naP)).trans t0P) (fun b => ?_) (.inl (.inr ⟨o, atA⟩)) (fun b u z => ?_) (fun b z => ?_) fun _ => hk
    · by_cases hb : b = a
      · exact .inr (.inr ⟨_, _, by rw [hb]; exact atA⟩)
      · by_cases hb2 : b = P
        · exact .inr (.inl hb2)
        · exact .inl ((ofA hb).trans (t0o hb2))
    · by_cases hb : b = a
      · rw [hb, atA] at z
        cases z
        rw [hb]
        exact ⟨hobj, by rw [List.length_map]; exact hlen, vs, _, relv, hobj⟩
      · rw [ofA hb] at z
        by_cases hb2 : b = P
        · rw [hb2, t0P] at z
          cases z
          rw [hb2]
          exact hT
        · rw [t0o hb2] at z
          cases z
    · by_cases hb : b = a
      · exact .inl hb
      · by_cases hb2 : b = P
        · exact .inr hb2
        · exact absurd ((ofA hb).trans (t0o hb2)) z
theorem walk_ofGT {l : PySem.W.OpenLaw} {n k : Nat} {q : Program} {loose : List Str} {XP : (Str → Option Value) → Heap → Prop} {YP : World → Heap → Prop} {d : DefRec}
    {K : Params → PySem.W.Frag} {sp : PySem.W.Frag → Addr → Sp} {x : Str}
    (hn : l.most = some n) (hn2 : n ≤ sizeLine) (hdf : d.params.defaults = []) (room : Room k callerA) (hrec : ((recsOf q).any fun e => e.name == d.name) = true)
    (hY : ∀ (w : World) (h : Heap), YP w h → (K w.params).In h)
    (F : ∀ (w : World) (mg : Str → Option Value) (fa : Addr) (h : Heap), (K w.params).In h → h.Ns mainGlobals mg → mg d.name = some (.ref fa) → OwnTab (K w.params) fa h →
      ∃ (fd : FuncData) (c P : Addr), h.get? P = some (tabO #[]) ∧ (K w.params).lookup P = none ∧ PySem.W.CodeHd h c P ∧ (∀ (s : Shared) (u : Value), BindsTo s fd ⟨[u], []⟩ [(x, u)]) ∧
        ∀ base : Heap, (K w.params).In base → base.Ns mainGlobals mg → TabB base mg c P → FnG l.prog w (K w.params) mg base k fa fd [x] (sp (K w.params) P))
    (want : ∀ (K : PySem.W.Frag) (H : Hp) (a P : Addr) (ns : List Int), ns.length ≤ n → H P = some (.tbl #[]) → SqL K H a (ns.map V.int) → sp K P [.ref a] H (fun v _ => v = .bl true) fun _ _ _ => False) :
    PySem.W.WalkO q loose XP YP l.row.toRowW d [] (fun f vs => PySem.call f vs) := by
  refine Att.attach_callB hn hdf fun w s₀ s₁ mg mb fa o pm cd doc a vs ns G Y ho hd hcd hmg hobj hints hlen hbits hg => ?_
  have KX := hY w _ Y
  have own : OwnTab (K w.params) fa s₁.heap := fun c P o1 fd1 e dd vs1 sl k1 k2 k3 k4 k5 => by
    obtain ⟨dL, hm, hn1⟩ := List.any_eq_true.mp hrec
    have hname : dL.name = d.name := beq_iff_eq.mp hn1
    obtain ⟨a', o', fd', c', P', h1, h2, h3, h4, h5, h6⟩ := G.T.tab dL hm
    rw [hname, hmg] at h1
    cases h1
    rw [KX _ _ k1] at h2
    cases h2
    rw [k2] at h3
    cases h3
    rw [k3] at h4
    cases h4
    obtain ⟨⟨oc, vc, e1, _, e3, e4⟩, hP⟩ := h6
    rw [KX _ _ k4] at e1
    cases e1
    cases e3
    rw [k5] at e4
    cases e4
    exact hP
  obtain ⟨fd, c, P, hT, nT, C, hb, hF⟩ := F w mg fa _ KX G.T.g hmg own
  exact law_callGT KX G.T.g G.T.b G.T.builtins G.T.nolimit hg hT nT C G.T.bmain hobj hints (Nat.le_trans hlen hn2) room hF hb fun H hH hS => want (K w.params) H a P ns hlen hH hS
section
variable {P : Program} {w : World} {K : PySem.W.Frag} {mg : Str → Option Value} {base : Heap}
/-- okG, the code object known -/
theorem okGc {x qual : Str} {st : Stmt} {f c : Addr} {fd : FuncData} {N ps : List Str} {k : Nat} {sp : Sp} (F : Fun K x qual st f fd) (hc : fd.code = .ref c)
    (S : FnScope N ps (defScope st)) (len : ∀ vs H Q E, sp vs H Q E → vs.length = ps.length)
    (body : ∀ (A : Around) (outer : List Env) (s : Shared) (H : Hp) (vs : List V) (Q : VK) (E : XK), A.guards = some [] →
      Room k (A.deeper (envOfC qual (defScope st) s.heap.objs.size f (.ref c))) → sp vs H Q E →
      ∃ t, PSs (cxOf CX0 P w K mg base N qual (defScope st) f (.ref c) A outer s H E).nox (defBody st) t ∧
        t { nx := fun _ H' => Q .non H', rt := Q } (start N vs) H) :
    FnG P w K mg base (k + 1) f fd ps sp := by
  obtain ⟨oc, od, kV, doc, pm, an, cdv, ct, osl, rfl, lk, hcd⟩ := F.ex
  obtain rfl : cdv = .ref c := hc
  refine ⟨len, fun A outer s H args us vs Q E hg room env0 binds rel want => ?_⟩
  have inK : K.In s.heap := env0.mod.kin.keeps fun b o e => (env0.bs b o e).1
  have noLim : s.heap.NoLimit := env0.mod.nolimit.keeps fun b o e => (env0.bs b o e).1
  have kinds : ∀ y ∈ ps.zip us, (defScope st).names.lookup y.1 = some .local ∨
      ((defScope st).names.lookup y.1 = some .cell ∧ ((cellsFrom (s.heap.objs.size + 1) (defScope st).names []).lookup y.1).isSome = true) := by
    rintro ⟨n, v⟩ hy
    rcases S.par n (List.of_mem_zip hy).1 with q | q
    · exact Or.inl q
    · exact Or.inr ⟨q, PySem.W.cellsFrom_some _ _ _ (Or.inl q)⟩
  refine codeAny_call_function room.depth (inK _ _ lk) rfl S.co S.gen rfl (PySem.W.codeRec_of inK hcd)
    (binds _ _ _ _ ?_)
  refine wpAny_newFunctionEnv_cells S.kind kinds
    fun env he s1 x => ?_
  subst he
  refine ⟨noLim.keeps x.toInCall.keep,
    codeAny_func ?_⟩
  obtain ⟨t, ht, run⟩ := body A outer s H vs Q E hg (room.deeper _) want
  have start0 : Inv (cxOf CX0 P w K mg base N qual (defScope st) f (.ref c) A outer s H E) [] (start N vs) H s1 :=
    inv_start S room.hd env0 (len _ _ _ _ want) rel x
  refine wpAny_mono (ht.nox.run [] s1 (start N vs) H _ start0 run)
    (fun flow s' hs => ?_) fun e s' hs => hs
  have fin : ∀ {σ' : L2.St} {H' : Hp} {v : V} {u : Value}, Inv (cxOf CX0 P w K mg base N qual (defScope st) f (.ref c) A outer s H E) [] σ' H' s' →
      RelV v u → Q v H' → CE outer P w H s Q u s' :=
    fun {_ H' v _} J rv q => ⟨v, H', J.os, J.bare, J.base, J.hok, rv, q⟩
  cases flow with
  | ret u =>
    obtain ⟨v, σ', H', J, rv, q⟩ := hs
    exact fin J rv q
  | next =>
    obtain ⟨σ', H', J, q⟩ := hs
    exact fin (v := V.non) (u := Value.none) J rfl q
  | brk => obtain ⟨_, _, _, q⟩ := hs; exact q.elim
  | cont => obtain ⟨_, _, _, q⟩ := hs; exact q.elim
end
section
variable {X : Cx}
end
end My

/-! The end of a law with lambdas in several defs. -/
namespace My
open PySem PySem.Spec PyProof.Rows L2 LamX
theorem law_callGTs {Pr : Program} {w : World} {K : PySem.W.Frag} {mg mb : Str → Option Value} {k : Nat} {fa a : Addr} {cs : List (Addr × Addr)} {fd : FuncData} {x : Str} {sp : Sp} {s₁ : Shared} {vs : List Value} {ns : List Int}
    (inK : K.In s₁.heap) (glob : s₁.heap.Ns mainGlobals mg) (blt : s₁.heap.Ns builtinsNs mb) (boot : ∀ x : Str, x ≠ "__name__" → mb x = bootBuiltins x) (nolim : s₁.heap.NoLimit) (nogen : s₁.gens = #[])
    (hT : ∀ p ∈ cs, s₁.heap.get? p.2 = some (tabO #[])) (nT : ∀ p ∈ cs, K.lookup p.2 = none) (C : ∀ p ∈ cs, PySem.W.CodeHd s₁.heap p.1 p.2)
    (hbm : ∃ (bm : Addr) (ob : Obj), mg "__builtins__" = some (.ref bm) ∧ bm ≠ builtinsNs ∧ s₁.heap.get? bm = some ob ∧ ob.cls = .type "module" ∧ ob.dict = some builtinsNs ∧ ob.data = .plain)
    (hobj : s₁.heap.get? a = some { cls := .type "list", data := .seq vs.toArray }) (hints : IntsAre vs ns) (hlen : ns.length ≤ sizeLine) (room : Room k callerA)
    (F : ∀ base : Heap, K.In base → base.Ns mainGlobals mg → (∀ p ∈ cs, TabB base mg p.1 p.2) → FnG Pr w K mg base k fa fd [x] sp) (binds : ∀ (s : Shared) (u : Value), BindsTo s fd ⟨[u], []⟩ [(x, u)])
    (want : ∀ H : Hp, (∀ p ∈ cs, H p.2 = some (.tbl #[])) → SqL K H a (ns.map V.int) → sp [.ref a] H (fun v _ => v = .bl true) fun _ _ _ => False) :
    codeAny (model Pr w) callerA (.call (.ref fa) ⟨[.ref a], []⟩) (fun r s' => r = .ok (.ret (.bool true)) ∧ OldK s₁.heap s'.heap ∧ s'.os = s₁.os ∧ AllBare s'.gens) s₁ := by
  have relv := vals_ints hints
  have isT : ∀ b : Addr, b ∈ cs.map (·.2) → s₁.heap.get? b = some (tabO #[]) := fun b hb => by
    obtain ⟨p, hp, e⟩ := List.mem_map.mp hb
    exact e ▸ hT p hp
  have inT : ∀ p ∈ cs, p.2 ∈ cs.map (·.2) := fun p hp => List.mem_map_of_mem hp
  have noK : ∀ b : Addr, b ∈ cs.map (·.2) → K.lookup b = none := fun b hb => by
    obtain ⟨p, hp, e⟩ := List.mem_map.mp hb
    exact e ▸ nT p hp
  have naP : a ∉ cs.map (·.2) := fun z => by
    rw [isT a z] at hobj
    have z' : Data.fields #[] = Data.seq vs.toArray _ := congrArg Obj.data (Option.some.inj hobj)
    cases z'
  have core : ∀ H : Hp, (∀ p ∈ cs, H p.2 = some (.tbl #[])) → (∀ b, H b = none ∨ b ∈ cs.map (·.2) ∨ ∃ o xs, H b = some (.frz o (.lst xs))) → SqL K H a (ns.map V.int) → HOk Pr w H s₁.heap → (∀ b, H b ≠ none → b = a ∨ b ∈ cs.map (·.2)) → (H a ≠ none → K.lookup a = none) →
      codeAny (model Pr w) callerA (.call (.ref fa) ⟨[.ref a], []⟩) (fun r s' => r = .ok (.ret (.bool true)) ∧ OldK s₁.heap s'.heap ∧ s'.os = s₁.os ∧ AllBare s'.gens) s₁ := by
    intro H hP only seq ok one notK
    have up : ∀ {b : Addr} {o : Obj}, s₁.heap.get? b = some o → H b = none → (hidT s₁.heap H).get? b = some o := fun e n => hidT_get e n
    -- what is neither a list nor a table is not tracked
    have out : ∀ {b : Addr} {o : Obj}, s₁.heap.get? b = some o → (∀ vs n, o.data ≠ .seq vs n) → o.data ≠ .fields #[] → H b = none := by
      intro b o e h1 h2
      cases q : H b with
      | none => rfl
      | some u =>
        rcases one b (fun z => by rw [q] at z; cases z) with z | z
        · rw [z, hobj] at e
          cases e
          exact (h1 _ _ rfl).elim
        · rw [isT b z] at e
          cases e
          exact (h2 rfl).elim
    have outD : ∀ {b : Addr} {o : Obj} {es : Array DictEntry} {ep : Nat}, s₁.heap.get? b = some o → o.data = .dict es ep → H b = none := fun {b o es ep} e d =>
      out e (fun vs n z => by rw [d] at z; cases z) (fun z => by rw [d] at z; cases z)
    have nsUp : ∀ {b : Addr} {m : Str → Option Value}, s₁.heap.Ns b m → (hidT s₁.heap H).Ns b m :=
      fun {_ _} ⟨o, es, ep, e, d, r⟩ => ⟨o, es, ep, up e (outD e d), d, r⟩
    have kUp : K.In (hidT s₁.heap H) := by
      intro b o e
      refine up (inK b o e) ?_
      cases q : H b with
      | none => rfl
      | some u =>
        rcases one b (fun z => by rw [q] at z; cases z) with z | z
        · rw [z, notK (fun y => by rw [← z, q] at y; cases y)] at e
          cases e
        · rw [noK b z] at e
          cases e
    have mod : Mod K mg (hidT s₁.heap H) := ⟨kUp, nsUp glob, ⟨mb, nsUp blt, boot⟩, nolim.imp fun mc z => ⟨nsUp z.1, z.2⟩⟩
    have tb : ∀ p ∈ cs, TabB (hidT s₁.heap H) mg p.1 p.2 := by
      intro p hp
      have hTp := hT p hp
      refine ⟨?_, ?_, fun z => ?_⟩
      · obtain ⟨o, us, file, tf, flags, tg, inF, text, tt, e1, r1, r2, r3, r⟩ := C p hp
        refine ⟨o, us, file, tf, flags, tg, inF, text, tt, up e1 (out e1 (fun vs n z => ?_) fun z => ?_), r1, r2, r3, r⟩
        · rw [r2] at z
          cases z
        · rw [r2] at z
          cases z
          simp at r3
      · obtain ⟨bm, ob, b1, b2, b3, b4, b5, b6⟩ := hbm
        have nG : bm ≠ mainGlobals := fun q => by
          obtain ⟨o, es, ep, e, hd, _⟩ := glob
          rw [q, e] at b3
          cases b3
          rw [hd] at b6
          cases b6
        have nP : bm ≠ p.2 := fun q => by
          rw [q, hTp] at b3
          cases b3
          cases b6
        exact ⟨bm, ob, b1, b2, nG, nP, up b3 (out b3 (fun vs n z => by rw [b6] at z; cases z) fun z => by rw [b6] at z; cases z), b4, b5, b6⟩
      · obtain ⟨o, es, ep, e, hd, _⟩ := glob
        rw [z, hTp] at e
        cases e
        cases hd
    have env0 : Env0 Pr w K mg (hidT s₁.heap H) callerA [] s₁ H :=
      ⟨rfl, mod, fun b o e => of_hidT e, Nat.le_of_eq (hidT_size _ _), trivial, fun b hb => absurd (show b ∈ ([] : List Addr) from hb) (by simp), ok, .of_eq nogen⟩
    have call := (F _ kUp (nsUp glob) tb).go callerA [] s₁ H ⟨[.ref a], []⟩ [.ref a] [.ref a] _ _ rfl room env0 (binds s₁ (.ref a)) (.cons rfl .nil) (want H hP seq)
    refine codeAny_mono call fun r s' h => ?_
    match r, h with
    | .error e, h => exact (show False from h).elim
    | .ok (.ret u), h =>
      obtain ⟨v, H', os, bare, un, ok', rv, q⟩ := h
      obtain rfl : v = .bl true := q
      obtain rfl : u = Value.bool true := rv
      have stays : ∀ b o, b ∉ cs.map (·.2) → s₁.heap.get? b = some o → s'.heap.get? b = some o := fun b o nb e => by
        rcases only b with z | z | ⟨ob, xs, z⟩
        · exact un.keep b o e z (fun y => absurd (show b ∈ ([] : List Addr) from y) (by simp)) (by simp)
        · exact absurd z nb
        · obtain ⟨e1, _⟩ := ok b _ z
          obtain ⟨e2, _⟩ := ok' b _ (un.frzs b ob _ z)
          rw [e] at e1
          cases e1
          exact e2
      have grown : ∀ p ∈ cs, ∃ more : Array Value, s'.heap.get? p.2 = some (tabO more) := fun p hp => by
        obtain ⟨more, z⟩ := un.tbls p.2 #[] (hP p hp)
        exact ⟨_, ok' p.2 _ z⟩
      refine ⟨rfl, ⟨fun b o e => ?_, fun b o e => ?_⟩, os, bare⟩
      · by_cases hb : b ∈ cs.map (·.2)
        · obtain ⟨p, hp, rfl⟩ := List.mem_map.mp hb
          obtain ⟨more, hm⟩ := grown p hp
          rw [hT p hp] at e
          cases e
          exact .inr (.inl ⟨((C p hp).tab (hT p hp)).isCodeTable, rfl, #[], more, rfl, by rw [Array.empty_append]; exact hm⟩)
        · exact .inl (stays b o hb e)
      · by_cases hb : b ∈ cs.map (·.2)
        · obtain ⟨p, hp, rfl⟩ := List.mem_map.mp hb
          obtain ⟨more, hm⟩ := grown p hp
          exact ⟨_, hm⟩
        · exact ⟨o, stays b o hb e⟩
  let t0 : Hp := fun b => if b ∈ cs.map (·.2) then some (.tbl #[]) else none
  have t0P : ∀ {b}, b ∈ cs.map (·.2) → t0 b = some (.tbl #[]) := fun h => if_pos h
  have t0o : ∀ {b}, b ∉ cs.map (·.2) → t0 b = none := fun h => if_neg h
  cases hk : K.lookup a with
  | some o =>
    have e := inK a o hk
    rw [hobj] at e
    cases e
    have stands : SqL K t0 a (ns.map V.int) := .inr ⟨_, vs.toArray, _, hk, rfl, rfl, rfl, by rw [List.size_toArray, hints.length]; exact hlen, by simpa using relv⟩
    refine core t0 (fun p hp => t0P (inT p hp)) (fun b => ?_) stands (fun b u z => ?_) (fun b z => ?_) fun z => absurd (t0o naP) z
    · by_cases hb : b ∈ cs.map (·.2)
      · exact .inr (.inl hb)
      · exact .inl (t0o hb)
    · by_cases hb : b ∈ cs.map (·.2)
      · rw [t0P hb] at z
        cases z
        exact isT b hb
      · rw [t0o hb] at z
        cases z
    · by_cases hb : b ∈ cs.map (·.2)
      · exact .inr hb
      · exact absurd (t0o hb) z
  | none =>
    let o : Obj := { cls := .type "list", data := .seq vs.toArray }
    let H1 : Hp := fun b => if b = a then some (.frz o (.lst (ns.map V.int))) else t0 b
    have atA : H1 a = some (.frz o (.lst (ns.map V.int))) := if_pos rfl
    have ofA : ∀ {b}, b ≠ a → H1 b = t0 b := fun h => if_neg h
    refine core H1 (fun p hp => (ofA (fun e => naP (e ▸ inT p hp))).trans (t0P (inT p hp))) (fun b => ?_) (.inl (.inr ⟨o, atA⟩)) (fun b u z => ?_) (fun b z => ?_) fun _ => hk
    · by_cases hb : b = a
      · exact .inr (.inr ⟨_, _, by rw [hb]; exact atA⟩)
      · by_cases hb2 : b ∈ cs.map (·.2)
        · exact .inr (.inl hb2)
        · exact .inl ((ofA hb).trans (t0o hb2))
    · by_cases hb : b = a
      · rw [hb, atA] at z
        cases z
        rw [hb]
        exact ⟨hobj, by rw [List.length_map]; exact hlen, vs, _, relv, hobj⟩
      · rw [ofA hb] at z
        by_cases hb2 : b ∈ cs.map (·.2)
        · rw [t0P hb2] at z
          cases z
          exact isT b hb2
        · rw [t0o hb2] at z
          cases z
    · by_cases hb : b = a
      · exact .inl hb
      · by_cases hb2 : b ∈ cs.map (·.2)
        · exact .inr hb2
        · exact absurd ((ofA hb).trans (t0o hb2)) z
theorem walk_ofGTs {l : PySem.W.OpenLaw} {n k : Nat} {q : Program} {loose : List Str} {XP : (Str → Option Value) → Heap → Prop} {YP : World → Heap → Prop} {d : DefRec}
    {K : Params → PySem.W.Frag} {sp : PySem.W.Frag → List (Addr × Addr) → Sp} {NM : List Str} {x : Str}
    (hn : l.most = some n) (hn2 : n ≤ sizeLine) (hdf : d.params.defaults = []) (room : Room k callerA) (hrec : (NM.all fun nm => (recsOf q).any fun e => e.name == nm) = true)
    (hY : ∀ (w : World) (h : Heap), YP w h → (K w.params).In h)
    (F : ∀ (w : World) (mg : Str → Option Value) (fa : Addr) (h : Heap), (K w.params).In h → h.Ns mainGlobals mg → mg d.name = some (.ref fa) → (∀ nm ∈ NM, ∀ f, mg nm = some (.ref f) → OwnTab (K w.params) f h) →
      ∃ (fd : FuncData) (cs : List (Addr × Addr)), (∀ p ∈ cs, h.get? p.2 = some (tabO #[])) ∧ (∀ p ∈ cs, (K w.params).lookup p.2 = none) ∧ (∀ p ∈ cs, PySem.W.CodeHd h p.1 p.2) ∧ (∀ (s : Shared) (u : Value), BindsTo s fd ⟨[u], []⟩ [(x, u)]) ∧
        ∀ base : Heap, (K w.params).In base → base.Ns mainGlobals mg → (∀ p ∈ cs, TabB base mg p.1 p.2) → FnG l.prog w (K w.params) mg base k fa fd [x] (sp (K w.params) cs))
    (want : ∀ (K : PySem.W.Frag) (H : Hp) (a : Addr) (cs : List (Addr × Addr)) (ns : List Int), ns.length ≤ n → (∀ p ∈ cs, H p.2 = some (.tbl #[])) → SqL K H a (ns.map V.int) → sp K cs [.ref a] H (fun v _ => v = .bl true) fun _ _ _ => False) :
    PySem.W.WalkO q loose XP YP l.row.toRowW d [] (fun f vs => PySem.call f vs) := by
  refine Att.attach_callB hn hdf fun w s₀ s₁ mg mb fa o pm cd doc a vs ns G Y ho hd hcd hmg hobj hints hlen hbits hg => ?_
  have KX := hY w _ Y
  have own : ∀ nm ∈ NM, ∀ f, mg nm = some (.ref f) → OwnTab (K w.params) f s₁.heap := fun nm hnm f hf c P o1 fd1 e dd vs1 sl k1 k2 k3 k4 k5 => by
    obtain ⟨dL, hm, hn1⟩ := List.any_eq_true.mp (List.all_eq_true.mp hrec nm hnm)
    have hname : dL.name = nm := beq_iff_eq.mp hn1
    obtain ⟨a', o', fd', c', P', h1, h2, h3, h4, h5, h6⟩ := G.T.tab dL hm
    rw [hname, hf] at h1
    cases h1
    rw [KX _ _ k1] at h2
    cases h2
    rw [k2] at h3
    cases h3
    rw [k3] at h4
    cases h4
    obtain ⟨⟨oc, vc, e1, _, e3, e4⟩, hP⟩ := h6
    rw [KX _ _ k4] at e1
    cases e1
    cases e3
    rw [k5] at e4
    cases e4
    exact hP
  obtain ⟨fd, cs, hT, nT, C, hb, hF⟩ := F w mg fa _ KX G.T.g hmg own
  exact law_callGTs KX G.T.g G.T.b G.T.builtins G.T.nolimit hg hT nT C G.T.bmain hobj hints (Nat.le_trans hlen hn2) room hF hb fun H hH hS => want (K w.params) H a cs ns hlen hH hS
end My

/-! rules within a comprehension: the written part by its own name -/
namespace My
open PySem PySem.Spec PyProof.Rows L2
section
variable {X : Cx}
theorem pg_tupK {K : PySem.W.Frag} {es : List Expr} {k : Nat} {pos : Pos} {t : TGs} {n : Nat} (hc : X.calm = true) (h : PGs X es t) (hK : X.K = K := by rfl)
    (hn : (assignEach es X.env).length = n := by rfl) (hst : (assignEach es X.env).findIdx? (·.1) = none := by rfl) : PG X (.Tuple es k pos) (gTup K n t) := by
  subst hK
  exact pg_tup hc h hn hst
theorem call_reprK {K : PySem.W.Frag} (hg : X.A.guards = some []) (hu : X.A.units + 64 < cLine) (h : X.K = K := by rfl) : CallR X (.builtin "repr") (rRepr K) := by
  subst h
  exact call_repr hg hu
variable {o e : Expr} {es : List Expr} {to : TE} {t : TA} {name : Str} {apos cpos : Pos} {T id : String} {r : V → List V → Hp → VK → Prop}
theorem pe_bmK {K : PySem.W.Frag} (pa : PlainAttrs T) (slot : Slot T name id) (hty : typeOf (.builtin id) = pure (.type "method_descriptor")) (hm : MtR X id r) (ho : PE X o to) (ha : PA X (e :: es) t) (hK : X.K = K := by rfl)
    (hbase : attributeBase o name X.env (eval o X.env) = eval o X.env := by rfl)
    (hfew : ((backTo cpos (starEach (e :: es) X.env)).all (fun x => !x.1) && (backToKw cpos (keywordEach [] X.env)).all (fun x => x.1.isSome)
      && decide ((e :: es).length + ([] : List Keyword).length + (if ([] : List Keyword).isEmpty then 0 else 1) < 30)) = true := by rfl)
    (hline : (apos.endLine == cpos.line) = true := by rfl) (hs : starEach (e :: es) X.env = (false, eval e X.env) :: starEach es X.env := by rfl) (hplain : (backTo cpos (starEach es X.env)).any (·.1) = false := by rfl) :
    PE X (.Call (.Attribute o name apos) (e :: es) [] cpos) (tBM K T r to t) := by
  subst hK
  exact pe_bm pa slot hty hm ho ha hbase hfew hline hs hplain
end
end My

/-! Laws with _law_outcome(lambda: ..): what they share. -/
namespace My
open PySem PySem.Spec PyProof.Rows L2
/-- isinstance, asked of each of the classes -/
def kitEach (K : PySem.W.Frag) (cls : Value) : List Value → List Bool → Prop
  | [], [] => True
  | c :: r, b :: q => PySem.W.kitOne K cls c = some b ∧ kitEach K cls r q
  | _, _ => False
theorem kit_self {K : PySem.W.Frag} {C : Addr} : PySem.W.kitOne K (.ref C) (.ref C) = some true := by
  unfold PySem.W.kitOne
  rw [if_pos (by simp)]
theorem kit_no {K : PySem.W.Frag} {D C : Addr} (isC : PySem.W.isClsIn K C = true) (tC : PySem.W.typeIn K (.ref C) = some (.type "type")) (sD : PySem.W.subIn K (.ref D) (.ref D) = some true) (s : PySem.W.subIn K (.ref D) (.ref C) = some false) :
    PySem.W.kitOne K (.ref D) (.ref C) = some false := by
  have h : (PySem.W.clsIn K C).isSome = true := isC
  unfold PySem.W.kitOne
  rw [if_neg (fun z => by
    have e : D = C := Value.ref.inj (beq_iff_eq.mp z)
    subst e
    rw [sD] at s
    cases s)]
  show (if ((PySem.W.clsIn K C).isSome && PySem.W.typeIn K (.ref C) == some (.type "type")) = true then PySem.W.subIn K (.ref D) (.ref C) else none) = some false
  rw [if_pos (by rw [h, tC]; rfl)]
  exact s
theorem exm_of {K : PySem.W.Frag} {S C : Addr} {b : Bool} (base : PySem.W.subIn K (.ref C) (.type "BaseException") = some true) (isCls : PySem.W.isClsIn K C = true)
    (ty : PySem.W.typeIn K (.ref C) = some (.type "type")) (sub : PySem.W.subIn K (.ref S) (.ref C) = some b) : PySem.W.exmOne K (.ref S) (.ref C) = some b := by
  unfold PySem.W.exmOne
  rw [if_pos (by rw [base]; rfl)]
  show (if ((PySem.W.clsIn K C).isSome && PySem.W.typeIn K (.ref C) == some (.type "type")) = true then PySem.W.subIn K (.ref S) (.ref C) else none) = some b
  have h : (PySem.W.clsIn K C).isSome = true := isCls
  rw [if_pos (by rw [h, ty]; rfl)]
  exact sub
section
variable {X : Cx}
def rNotInDT (K : PySem.W.Frag) : R2 := fun x y H Q => ∃ d ds, Dp K H x d ∧ Dp K H y (.tuple ds) ∧ SeqAt.shaped d = true ∧ SeqAt.shaped (.tuple ds) = true ∧ Q (.bl (!ds.any fun z => PyData.eqv z d)) H
theorem op_notInDT (hu : X.A.units + 65 < cLine) : OpR X (compareOp .NotIn) (rNotInDT X.K) := by
  intro pins s σ H x y v u Q I rx ry h
  obtain ⟨d, ds, hd, he, sd, se, q⟩ := h
  obtain ⟨as, r1⟩ := Dp.reads I d x v hd rx
  obtain ⟨bs, r2⟩ := Dp.reads I (.tuple ds) y u he ry
  exact SeqAt.notIn_tuple_reads r2 r1 (SeqAt.canLay_of_shaped se) (SeqAt.canLay_of_shaped sd) (room_in_shaped sd hu) ⟨.bl _, H, I, rfl, q⟩
end
end My

/-! zip of two things, each a list or a tuple. -/
namespace My
open PySem PySem.Spec PyProof.Rows L2
/-- a list (k), or a tuple -/
def Sq (k : Bool) (K : PySem.W.Frag) (H : Hp) (a : Addr) (xs : List V) : Prop := match k with
  | true => SqL K H a xs
  | false => SqT K H a xs
def IsS (k : Bool) (h : Heap) (a : Addr) (items : Array Value) : Prop := match k with
  | true => h.IsList a items
  | false => h.IsTuple a items
def IsSI (k : Bool) (h : Heap) (it a : Addr) (i : Nat) : Prop := match k with
  | true => h.IsListIter it a i
  | false => h.IsTupleIter it a i
theorem IsSI.at {k : Bool} {h h' : Heap} {it a : Addr} {i : Nat} (x : IsSI k h it a i) (e : ∀ o, h.get? it = some o → h'.get? it = some o) : IsSI k h' it a i := by
  cases k with
  | true => exact Heap.IsListIter.at x e
  | false => exact Heap.IsTupleIter.at x e
theorem IsSI.nocell {k : Bool} {h : Heap} {it a : Addr} {i : Nat} (x : IsSI k h it a i) : ∃ o, h.get? it = some o ∧ ∀ v, o.data ≠ .cell v := by
  cases k with
  | true => obtain ⟨o, e, _, d⟩ := x; exact ⟨o, e, fun v q => by rw [d] at q; cases q⟩
  | false => obtain ⟨o, e, _, d⟩ := x; exact ⟨o, e, fun v q => by rw [d] at q; cases q⟩
theorem IsS.lt {k : Bool} {h : Heap} {a : Addr} {items : Array Value} (x : IsS k h a items) : a < h.objs.size := by
  cases k with
  | true => obtain ⟨o, e, _⟩ := x; exact Heap.lt_size e
  | false => obtain ⟨o, e, _⟩ := x; exact Heap.lt_size e
theorem drawsS {prog : Program} {w : World} {A : Around} (hh : A.handled = none) (k : Bool) (it a : Addr) (hne : a ≠ it) (items : Array Value) :
    Draws prog w A it [it, a] items.size (fun i v => items[i]? = some v) (fun i h => IsSI k h it a i ∧ IsS k h a items) := by
  cases k with
  | true => exact Draws.list hh it a hne items
  | false => exact Draws.tuple hh it a hne items
def itO (k : Bool) (a : Addr) : Obj := match k with
  | true => { cls := .type "list_iterator", data := .fields #[.ref a, .int 0 0] }
  | false => { cls := .type "tuple_iterator", data := .fields #[.ref a, .int 0 0] }
theorem beginsS (k : Bool) (a : Addr) (items : Array Value) : Begins (.ref a) (itO k a) fun h => IsS k h a items := by
  cases k with
  | true => exact begins_list a items
  | false => exact begins_tuple a items
theorem isSI_new {k : Bool} {h : Heap} {it a : Addr} (e : h.get? it = some (itO k a)) : IsSI k h it a 0 := by
  cases k with
  | true => exact ⟨_, e, rfl, rfl⟩
  | false => exact ⟨_, e, rfl, rfl⟩
theorem inv_sq {X : Cx} {pins : List (Addr × Obj)} {σ : L2.St} {H : Hp} {s : Shared} {k : Bool} {a : Addr} {xs : List V} (I : Inv X pins σ H s) (h : Sq k X.K H a xs) :
    ∃ its : List Value, Vals xs its ∧ IsS k s.heap a its.toArray := by
  cases k with
  | true => obtain ⟨its, r, p, _⟩ := I.list h; exact ⟨its, r, p.isList⟩
  | false => obtain ⟨its, r, p, _⟩ := I.tuple h; exact ⟨its, r, p⟩
theorem inv_sq_inj {X : Cx} {pins : List (Addr × Obj)} {σ : L2.St} {H : Hp} {s : Shared} {k : Bool} {a : Addr} {xs ys : List V} (I : Inv X pins σ H s) (h : Sq k X.K H a xs) (h' : Sq k X.K H a ys) : xs = ys := by
  cases k with
  | true => exact I.list_inj h h'
  | false => exact I.tuple_inj h h'
/-- both as they stand at each turn, the items in new pairs -/
def Itz2 (K : PySem.W.Frag) (k1 k2 : Bool) (a b : Addr) : It where
  go i H := ∃ (xs ys : List V) (x y : V), Sq k1 K H a xs ∧ Sq k2 K H b ys ∧ xs[i]? = some x ∧ ys[i]? = some y
  yld i H v H' := ∃ T x y, v = .ref T ∧ H T = none ∧ H' = upd H T (.tup [x, y]) ∧ (∀ xs, Sq k1 K H a xs → xs[i]? = some x) ∧ ∀ ys, Sq k2 K H b ys → ys[i]? = some y
  stop i H := ∃ xs ys : List V, Sq k1 K H a xs ∧ Sq k2 K H b ys ∧ i = min xs.length ys.length
theorem mem5 {c n : Nat} (h : c ∈ [n + 4, n + 2, n + 3, n, n + 1]) : n ≤ c ∧ c ≤ n + 4 := by
  have e : c = n + 4 ∨ c = n + 2 ∨ c = n + 3 ∨ c = n ∨ c = n + 1 := by simpa using h
  omega
theorem nm2 {x p q : Nat} (h1 : x ≠ p) (h2 : x ≠ q) : x ∉ [p, q] := fun h => by
  rcases List.mem_cons.mp h with e | e
  · exact h1 e
  · exact h2 (List.mem_singleton.mp e)
theorem sepS {n a b : Nat} (ha : a < n) (hb : b < n) : ZipSep2 (n + 4) (n + 2) (n + 3) n (n + 1) [n, a] [n + 1, b] :=
  ⟨Nat.ne_of_lt (by omega), Nat.ne_of_lt (by omega), Nat.ne_of_lt (by omega), Nat.ne_of_gt (by omega), List.mem_cons_self, nm2 (by omega) (by omega), nm2 (by omega) (by omega), Nat.ne_of_gt (by omega), List.mem_cons_self,
   nm2 (by omega) (by omega), nm2 (by omega) (by omega), nm2 (by omega) (by omega), nm2 (by omega) (by omega)⟩
def ZAt (k1 k2 : Bool) (n a b : Addr) (i : Nat) (h : Heap) : Prop := IsZip h (n + 4) (n + 2) (n + 3) .none ∧ IsTupOf2 h (n + 2) (.ref n) (.ref (n + 1)) ∧ (∃ x y, IsTupOf2 h (n + 3) x y) ∧ IsSI k1 h n a i ∧ IsSI k2 h (n + 1) b i
theorem turn_zipS {P : Program} {w : World} {K : PySem.W.Frag} {elts : List Expr} {kk : Nat} {tpos : Pos} {k1 k2 : Bool} {n a b : Nat} (ha : a < n) (hb : b < n) :
    Turn P w K (.Tuple elts kk tpos) (Itz2 K k1 k2 a b) [n + 4, n + 2, n + 3, n, n + 1] (n + 4) (ZAt k1 k2 n a b) where
  mem := by simp
  obj := fun i h st c hc => by
    obtain ⟨hz, hTI, ⟨x, y, hTO⟩, h1, h2⟩ := st
    have e' : c = n + 4 ∨ c = n + 2 ∨ c = n + 3 ∨ c = n ∨ c = n + 1 := by simpa using hc
    rcases e' with q | q | q | q | q
    · rw [q]; exact ⟨_, hz, fun v q => nomatch q⟩
    · rw [q]; exact ⟨_, hTI, fun v q => nomatch q⟩
    · rw [q]; exact ⟨_, hTO, fun v q => nomatch q⟩
    · rw [q]; exact h1.nocell
    · rw [q]; exact h2.nocell
  keep := fun i h h' st k => by
    obtain ⟨hz, hTI, ⟨x, y, hTO⟩, h1, h2⟩ := st
    exact ⟨k _ (by simp) _ hz, k _ (by simp) _ hTI, ⟨x, y, k _ (by simp) _ hTO⟩, h1.at fun o q => k _ (by simp) o q, h2.at fun o q => k _ (by simp) o q⟩
  item := by
    intro X hP hw hK hc i pins s σ H E I hf st hg
    subst hP hw hK
    obtain ⟨hz, hTI, ⟨x0, y0, hTO⟩, h1, h2⟩ := st
    obtain ⟨xs, ys, x, y, hqx, hqy, hx, hy⟩ := hg
    obtain ⟨its, rv, p⟩ := inv_sq I hqx
    obtain ⟨its2, rv2, p2⟩ := inv_sq I hqy
    obtain ⟨u, hu, ru⟩ := rv.get hx
    obtain ⟨u2, hu2, ru2⟩ := rv2.get hy
    have hzl : n + 4 < s.heap.objs.size := Heap.lt_size hz
    have l1 : i < its.toArray.size := by rw [List.size_toArray]; exact (List.getElem?_eq_some_iff.mp hu).1
    have l2 : i < its2.toArray.size := by rw [List.size_toArray]; exact (List.getElem?_eq_some_iff.mp hu2).1
    refine wpAny_pyNext_zipD2_item (sepS ha hb) (drawsS (A := X.A.in1) (I.ok.hd hc) k1 n a (Nat.ne_of_lt ha) its.toArray) (drawsS (A := X.A.in1) (I.ok.hd hc) k2 (n + 1) b (Nat.ne_of_lt (Nat.lt_of_lt_of_le hb (Nat.le_succ _))) its2.toArray) hz hTI hTO ⟨h1, p⟩ ⟨h2, p2⟩ l1 l2
      fun x1 x2 h' tk y1 y2 z' TO' s1 s2 hT hsz hk => ?_
    have e1 : x1 = u := by
      have z : its.toArray[i]? = some u := by simpa using hu
      exact Option.some.inj (y1.symm.trans z)
    have e2 : x2 = u2 := by
      have z : its2.toArray[i]? = some u2 := by simpa using hu2
      exact Option.some.inj (y2.symm.trans z)
    subst e1 e2
    refine ⟨_, rfl, wpAny_letOwnedTupleGo_zip (s := { s with heap := h', toks := tk }) z' fun h'' z'' sb => ?_⟩
    have hT2 : h''.get? s.heap.objs.size = some { cls := .type "tuple", data := .seq #[x1, x2] } := (sb.2 _ (Nat.ne_of_gt hzl)).trans hT
    have new : ObjOk X.prog X.w (upd H s.heap.objs.size (.tup [x, y])) h'' s.heap.objs.size (.tup [x, y]) :=
      ⟨by show 2 ≤ sizeLine; decide, [x1, x2], .cons ru (.cons ru2 .nil), ⟨_, hT2, rfl, _, rfl⟩⟩
    have I1 : Inv X pins σ (upd H s.heap.objs.size (.tup [x, y])) { s with heap := h'', toks := tk } :=
      I.turnedNew (ch := [n + 4, n + 2, n + 3, n, n + 1]) (fun c o hb q => (sb.2 c (fun q' => hb (by simp [q']))).trans (hk c o (fun q' => hb (by simp [q'])) (fun q' => hb (by simp [q'])) (fun q' => hb (by simp [q'])) (fun q' => hb (by simp [q'])) q)) hf (Nat.le_refl _) new
    refine ⟨.ref s.heap.objs.size, _, I1, rfl, ⟨_, x, y, rfl, I.hok.fresh (Nat.le_refl _), rfl, fun l hl => by rw [inv_sq_inj I hl hqx]; exact hx, fun l hl => by rw [inv_sq_inj I hl hqy]; exact hy⟩, ⟨z'', ?_, ⟨x1, x2, ?_⟩, ?_, ?_⟩, fun c hcm => ?_⟩
    · exact (sb.2 _ (sepS ha hb).TIz).trans (hk _ _ (sepS ha hb).TIz (sepS ha hb).TITO (sepS ha hb).TIi1 (sepS ha hb).TIi2 hTI)
    · exact (sb.2 _ (sepS ha hb).TOz).trans TO'
    · exact s1.1.at fun o q => (sb.2 _ (Ne.symm (sepS ha hb).zi1)).trans q
    · exact s2.1.at fun o q => (sb.2 _ (Ne.symm (sepS ha hb).zi2)).trans q
    · have hlt : c < s.heap.objs.size := Nat.lt_of_le_of_lt (mem5 hcm).2 hzl
      rw [upd_ne (Nat.ne_of_lt hlt)]
      exact (hf c hcm).1
  done := by
    intro X hP hw hK hc i pins s σ H E I hf st hg
    subst hP hw hK
    obtain ⟨hz, hTI, ⟨x0, y0, hTO⟩, h1, h2⟩ := st
    obtain ⟨xs, ys, hqx, hqy, hend⟩ := hg
    obtain ⟨its, rv, p⟩ := inv_sq I hqx
    obtain ⟨its2, rv2, p2⟩ := inv_sq I hqy
    have l1 := rv.length
    have l2 := rv2.length
    refine wpAny_pyNext_zipD2_end (sepS ha hb) (drawsS (A := X.A.in1) (I.ok.hd hc) k1 n a (Nat.ne_of_lt ha) its.toArray) (drawsS (A := X.A.in1) (I.ok.hd hc) k2 (n + 1) b (Nat.ne_of_lt (Nat.lt_of_lt_of_le hb (Nat.le_succ _))) its2.toArray) hz hTI hTO ⟨h1, p⟩ ⟨h2, p2⟩
      (by rw [List.size_toArray]; omega) (by rw [List.size_toArray]; omega) (by rw [List.size_toArray, List.size_toArray]; omega) fun h' tk hk => ⟨rfl, I.turnedL (t' := tk) (ch := [n + 4, n + 2, n + 3, n, n + 1]) (fun c o hb q =>
      hk c o (fun q' => hb (by simp [q'])) (fun q' => hb (by simp [q'])) (fun q' => hb (by simp [q'])) (fun q' => hb (by simp [q'])) q) hf⟩
  self := fun A i s Q E st h => wpAny_pyIter_zip st.1 h
def iZipS (K : PySem.W.Frag) (ta : TA) : TI := fun σ H R => ta σ H fun vs H1 => ∃ a b xs ys k1 k2, vs = [.ref a, .ref b] ∧ Sq k1 K H1 a xs ∧ Sq k2 K H1 b ys ∧ R (Itz2 K k1 k2 a b) H1
theorem pi_zipS {X : Cx} {e e2 : Expr} {ta : TA} {p pos tpos : Pos} {elts : List Expr} {kk : Nat} (hg : Gl X "zip") (hm : X.mg "zip" = none) (ha : PA X [e, e2] ta)
    (hs : starEach [e, e2] X.env = (false, eval e X.env) :: starEach [e2] X.env := by rfl) (hpl : (backTo pos (starEach [e2] X.env)).any (·.1) = false := by rfl) :
    PI X (.Tuple elts kk tpos) (.Call (.Name "zip" p) [e, e2] [] pos) (iZipS X.K ta) := by
  refine ⟨fun pins s σ H R I h => ?_⟩
  refine Call_ (ld_blt I hg hm PyProof.Rows.boot_zip (PyProof.Rows.callWith_type1 (thn (ha.run pos pins s σ H _ I h) fun us s1 ⟨vs, H1, I1, r1, q1⟩ => ?_) hs hpl))
  obtain ⟨a, b, xs, ys, k1, k2, ex, hqx, hqy, q⟩ := q1
  subst ex
  cases r1 with
  | cons r rr =>
    cases rr with
    | cons r' rr =>
      cases rr
      cases r
      cases r'
      obtain ⟨its, rv, p1⟩ := inv_sq I1 hqx
      obtain ⟨its2, rv2, p2⟩ := inv_sq I1 hqy
      refine zip_begins2 (beginsS k1 a its.toArray) (beginsS k2 b its2.toArray) p1 p2 fun h' hz hTI hTO h1 h2 hsz hk => wpAny_pyIter_zip hz ?_
      have I2 : Inv X pins σ H1 { s1 with heap := h' } := I1.kept (t' := s1.toks) hk
      refine ⟨s1.heap.objs.size + 4, [s1.heap.objs.size + 4, s1.heap.objs.size + 2, s1.heap.objs.size + 3, s1.heap.objs.size, s1.heap.objs.size + 1], _, _, H1, rfl, I2, turn_zipS (k1 := k1) (k2 := k2) (IsS.lt p1) (IsS.lt p2), ⟨hz, hTI, ⟨_, _, hTO⟩, isSI_new h1, isSI_new h2⟩, fun c hcm => ?_, q⟩
      have hle : s1.heap.objs.size ≤ c := (mem5 hcm).1
      exact I1.fpOk hle (I1.hok.fresh hle)
theorem pi_zipSK {X : Cx} {K : PySem.W.Frag} {e e2 : Expr} {ta : TA} {p pos tpos : Pos} {elts : List Expr} {kk : Nat} (hg : Gl X "zip") (hm : X.mg "zip" = none) (ha : PA X [e, e2] ta)
    (hK : X.K = K := by rfl) (hs : starEach [e, e2] X.env = (false, eval e X.env) :: starEach [e2] X.env := by rfl) (hpl : (backTo pos (starEach [e2] X.env)).any (·.1) = false := by rfl) :
    PI X (.Tuple elts kk tpos) (.Call (.Name "zip" p) [e, e2] [] pos) (iZipS K ta) := by
  subst hK
  exact pi_zipS hg hm ha hs hpl
theorem walk_zipS {K : PySem.W.Frag} {k1 k2 : Bool} {a b : Addr} {xs ys : List V} {n : Nat} (hn : n = min xs.length ys.length) :
    Walk (Itz2 K k1 k2 a b) n (fun H => Sq k1 K H a xs ∧ Sq k2 K H b ys) (YPair (fun i => xs[i]?) (fun i => ys[i]?)) :=
  ⟨fun i _ hi q => ⟨xs, ys, xs[i]'(by omega), ys[i]'(by omega), q.1, q.2, List.getElem?_eq_getElem (by omega), List.getElem?_eq_getElem (by omega)⟩,
   fun _ q => ⟨xs, ys, q.1, q.2, hn⟩,
   fun i H v H' _ q y => by
    obtain ⟨T, x, z, e1, e2, e3, f1, f2⟩ := y
    exact ⟨T, x, z, e1, e2, e3, f1 xs q.1, f2 ys q.2⟩⟩
end My

set_option maxHeartbeats 4000000
/-! an own error over OverflowError whose __init__ stores one field -/
namespace My
open PySem PySem.Spec PyProof.Rows L2
def oeTail : List Value := [.type "OverflowError", .type "ArithmeticError", .type "Exception", .type "BaseException", .type "object"]
/-- what is asked of the class -/
structure TgC (K : PySem.W.Frag) (C : Addr) : Prop where
  look : ∃ nm q N bs sn sub ab col dd k0 k1 k2 k3 k5, K.lookup C =
    some (excClassObj nm q C N bs oeTail true sn sub ab col dd k0 k1 k2 k3 k5 "OverflowError.__new__")
  setter : PySem.W.findIn K (.ref C) "__setattr__" = some (some (.builtin "object.__setattr__"))
  base : PySem.W.subIn K (.ref C) (.type "BaseException") = some true
  ofType : PySem.W.typeIn K (.ref C) = some (.type "type")
  keep : PySem.W.keepIn K (.ref C) = true
section
open PySem.W PySem.Calls PySem.HandSPX Builtin Builtin.ObjectAttr
variable {prog : Program} {w : World} {A : Around} {R : Result → Shared → Prop} {hp : Heap} {g : Array GenState} {d : Drawn} {t : Nat} {os : OsState}
theorem put_field {K : W.Frag} {name : Str} {tk : Tok} {v : Value} {x C : Addr} {fv : Array Value} {cd : ClassData}
    (inK : K.In hp) (atX : hp.get? x = some { cls := .ref C, data := .fields fv }) (ofC : W.clsIn K C = some cd) (order : cd.mro = .ref C :: oeTail)
    (dict : cd.hasDict = true) (free : W.findIn K (.ref C) name = some none)
    (go : ∀ h2 tk2 dx, (∀ b o, b ≠ x → hp.get? b = some o → h2.get? b = some o) → hp.objs.size ≤ dx → dx ≠ x →
      h2.get? x = some { cls := .ref C, dict := some dx, data := .fields fv } → h2.Ns1 dx (fun y => if y = name then some v else none) →
      R (.ok (.ret .none)) ⟨h2, g, d, tk2, os⟩) :
    codeAny (model prog w) A (.call (.builtin "object.__setattr__") ⟨[.ref x, .str name tk, v], []⟩) R ⟨hp, g, d, t, os⟩ := by
  have inst : W.InstAt hp x { cls := .ref C, data := .fields fv } C none := ⟨atX, rfl, rfl, trivial⟩
  have facts := F.store_object
  have some' : cd.mro.isEmpty = false := by rw [order]; rfl
  have isObj : cd.mro.contains (.type "object") = true := by
    rw [order, List.contains_cons, show oeTail.contains (.type "object") = true by decide +kernel, Bool.or_true]
  have apart : x ≠ hp.objs.size := Nat.ne_of_lt (Heap.lt_size atX)
  have inside : W.mroIn K C (.type "object") = some true := by
    unfold W.mroIn
    rw [ofC, Option.bind_some, if_neg (by rw [some']; decide), isObj]
  have sub : W.Looks (model prog w) hp (isInstance (.ref x) (.type "object")) true := inst.type.andThen (W.looks_mroIn inK inside)
  refine codeAny_call_builtin facts.slot.plain facts.entry ?_
  refine @W.check_slot (model prog w) _ _ ⟨hp, g, d, t, os⟩ "object.__setattr__" "object" "__setattr__" (.ref x)
    [.str name tk, v] [] _ facts.kind facts.split sub (facts.args (.ref x) (.str name tk) v) ?_
  have lookOrder : W.Looks (model prog w) hp (mroOf (.ref C)) cd.mro := (W.looks_clsIn inK ofC).andThen .now
  have noTaker : W.Looks (model prog w) hp (storeTaker? none) none := .now
  have lookCls : W.Looks (model prog w) hp (classData C) cd := W.looks_clsIn inK ofC
  rw [W.osa_eq, refuse_eq]
  refine wpAny_bind (wpAny_bind ?_)
  refine inst.type.at (wpAny_bind (lookOrder.at ?_))
  rw [order, refuseLoop_ref, show refuseLoop (.ref x) "__setattr__" oeTail = pure () from F.store_OverflowError.passes _]
  refine wpAny_pure (wpAny_bind ?_)
  refine inst.type.at (wpAny_bind ((W.looks_findIn inK free).at (wpAny_bind (noTaker.at ?_))))
  show wpAny _ _ (storeInOwnDict (.ref x) (.ref C) (.str name tk) name v false) _ _ _
  obtain ⟨c1, c2, c3, c4, c5, c6, c7, c8, c9, c10, c11⟩ := cd
  dsimp only at dict
  subst dict
  unfold storeInOwnDict ownDictForStores
  repeat (first
    | with_reducible refine store_in_new ?_ ?_
    | with_reducible refine wpAny_loadPart_at atX ?_
    | with_reducible refine lookCls.at ?_
    | wp_step)
  · exact ⟨_, #[], _, (Heap.get?_update_ne _ _ _ _ apart.symm).trans (Heap.get?_push_at rfl rfl),
      rfl, fun e he => absurd he (by simp), fun _ => rfl⟩
  · intro h2 tk2 names same
    have stays : (hp.push { cls := .type "dict", data := .dict #[] }).get? x = some { cls := .ref C, data := .fields fv } := Heap.get?_push_of_some _ atX
    refine go h2 tk2 hp.objs.size (fun b o ne ho => ?_) (Nat.le_refl _) apart.symm ?_ names
    · refine (same.2 b (Nat.ne_of_lt (Heap.lt_size ho))).trans ?_
      exact (Heap.get?_update_ne _ _ _ _ ne).trans (Heap.get?_push_of_some _ ho)
    · exact (same.2 x apart).trans (Heap.get?_update_self _ stays rfl)
end
section
variable {X : Cx} {pins : List (Addr × Obj)} {σ : L2.St} {H : Hp} {s : Shared} {a C dx : Addr} {f : Str} {y : V} {u : Value} {Q : Unit → Shared → Prop} {E : Value → Shared → Prop} {A : Around}
theorem put_first (T : TgC X.K C) (I : Inv X pins σ H s) (e : H a = some (exo a C none)) (free : PySem.W.findIn X.K (.ref C) f = some none) (ry : RelV y u)
    (go : ∀ dx s2, H dx = none → dx ≠ a → Inv X pins σ (upd (upd H dx (exd dx [(f, y)])) a (exo a C (some dx))) s2 → Q () s2) :
    wpAny (model X.prog X.w) A (setAttr (.ref a) f u) Q E s := by
  obtain ⟨nm, q, N, bs, sn, sub, ab, col, dd, k0, k1, k2, k3, k5, hC⟩ := T.look
  have ofC : PySem.W.clsIn X.K C = some {
      name := nm
      bases := bs
      mro := .ref C :: oeTail
      ns := N
      qualname := q
      hasDict := true
      slotNames := sn
      subclasses := sub
      abstract := ab
      collection := col
      hasDel := false } := by
    unfold PySem.W.clsIn
    rw [hC] <;> rfl
  obtain ⟨t1, ho⟩ := exo_at I.hok e
  obtain ⟨hp, g, d, t, os⟩ := s
  refine PySem.W.set_plain I.kIn (ox := { cls := .ref C, dict := none, data := .fields #[.ref t1, .none, .none, .none, .bool false, .none] }) (od := none)
    ⟨ho, rfl, rfl, trivial⟩ T.setter ?_
  refine put_field I.kIn ho ofC rfl rfl free fun h2 tk2 dx k dn dne hx hn => ?_
  have newDx : H dx = none := I.hok.fresh dn
  have notDx : ∀ {b : Addr} {o : Obj}, hp.get? b = some o → b ≠ dx := fun {b o} z => Nat.ne_of_lt (Nat.lt_of_lt_of_le (Heap.lt_size z) dn)
  have notA : ∀ {b : Addr}, H b = none → b ≠ a := fun {b} n z => by
    rw [z, e] at n
    cases n
  have step : Un X.fs [] H (upd (upd H dx (exd dx [(f, y)])) a (exo a C (some dx))) hp h2 := by
    refine {
      keep := fun b o z n _ _ => k b o (notA n) z
      slot := fun b o z n _ _ => ⟨_, k b o (notA n) z⟩
      free := fun b o z n _ => ?_
      there := fun b o z _ => ?_
      tups := fun b xs z => ?_
      frzs := fun b o v z => ?_
      tbls := fun b ps z => ⟨#[], ?_⟩ }
    · rw [upd_ne (notA n), upd_ne (notDx z)]
      exact n
    · by_cases hb : b = a
      · exact ⟨_, by rw [hb]; exact hx⟩
      · exact ⟨o, k b o hb z⟩
    · rw [upd_ne (at_ne e z exo_tup), upd_ne (ne_of_none z newDx)]
      exact z
    · rw [upd_ne (at_ne e z exo_frz), upd_ne (ne_of_none z newDx)]
      exact z
    · rw [upd_ne (at_ne e z exo_tbl), upd_ne (ne_of_none z newDx), z]
      simp
  refine go dx _ newDx dne (I.un (t' := tk2) step fun b o z => ?_)
  by_cases hb : b = a
  · subst hb
    rw [upd_same] at z
    cases z
    exact exo_ok hx
  rw [upd_ne hb] at z
  by_cases hd : b = dx
  · subst hd
    rw [upd_same] at z
    cases z
    exact exd_ok hn (relO_put (fs := []) ry fun _ => True.intro)
  rw [upd_ne hd] at z
  refine (I.hok b o z).stay (fun c v hc r => k c v ?_ r) (fun c hc => ?_) (fun c xs hc => ?_)
  · rcases hc with hc | hc
    · rw [hc]
      exact hb
    · exact at_ne e hc exo_own
  · rw [upd_ne (at_ne e hc exo_own), upd_ne (ne_of_none hc newDx)]
    exact hc
  · rw [upd_ne (at_ne e hc exo_tup), upd_ne (ne_of_none hc newDx)]
    exact hc
end
/-- self.f = e, in the __init__ of such a class -/
def tPut (K : PySem.W.Frag) (f : Str) (to te : TE) : L2.TS := fun D σ H => te σ H fun y H1 => to σ H1 fun x H2 => ∃ a C : Addr, x = .ref a ∧ TgC K C ∧
  PySem.W.findIn K (.ref C) f = some none ∧ H2 a = some (exo a C none) ∧
  ∀ dx, H2 dx = none → dx ≠ a → D.nx σ (upd (upd H2 dx (exd dx [(f, y)])) a (exo a C (some dx)))
section
variable {X : Cx} {o e : Expr} {es : List Expr} {to te : TE} {ta : TA} {f : Str} {p p' pos : Pos}
theorem ps_put (ho : PE X o to) (he : PE X e te) (hs : swapsWith e (some (.Attribute o f p')) pos.line X.env = pure false := by rfl) :
    PS X (.Assign [.Attribute o f p'] e pos) (tPut X.K f to te) := by
  refine ⟨fun pins s σ H D I h => ?_⟩
  refine plainObj_wpAny_Assign_Attribute (thn (he.run pins s σ H _ I h) fun v s1 ⟨y, H1, I1, r1, q1⟩ => ?_) hs
  refine thn (ho.run pins s1 σ H1 _ I1 q1) fun u s2 ⟨x, H2, I2, r2, a, C, ex, T, free, ea, q⟩ => ?_
  subst ex
  obtain rfl : u = Value.ref a := r2
  exact put_first T I2 ea free r1 fun dx s3 n ne J => ⟨σ, _, J, q dx n ne⟩
theorem pmk_tg {CX : CXT} {x : Str} {C fI : Addr} {k : Nat} {fd : FuncData} {ps : List Str} {sp : Sp} {ds : List Value} {dvs : List V} (T : TgC X.K C)
    (iC : PySem.W.findIn X.K (.ref C) "__init__" = some (some (.ref fI))) (tI : PySem.W.typeIn X.K (.ref fI) = some (.type "function"))
    (F1 : FnOk X.prog X.w X.K X.mg X.base CX k fI fd ps sp) (hr : Room (k + 1) X.A) (hb : Binds X.K fd ps ds) (hd : Vals dvs ds)
    (hx : Passes CX X (fun _ _ _ => False)) (hg : Gl X x) (hm : X.mg x = some (.ref C)) (ha : PA X (e :: es) ta)
    (hdb : (x == ("__debug__" : Str)) = false := by decide) (he : starEach (e :: es) X.env = (false, eval e X.env) :: starEach es X.env := by rfl)
    (hpl : (backTo pos (starEach es X.env)).any (·.1) = false := by rfl) :
    PMk X (.Call (.Name x p) (e :: es) [] pos) (tMkO C sp dvs ta) := by
  intro pins s σ H Q I h
  obtain ⟨nm, q, N, bs, sn, sub, ab, col, dd, k0, k1, k2, k3, k5, hC⟩ := T.look
  refine wpAny_Call_Name_kw (ld_glob I hg hm ?_ hdb)
  refine PySem.W.callWith_K (h₀ := X.base) I.ok.mod.kin T.keep ?_ he hpl
  refine thn (ha.run pos pins s σ H _ I h) fun us s1 ⟨vs, H1, I1, r1, hz, q1⟩ => ⟨I1.kIn, ?_⟩
  show wpAny _ _ (call (.ref C) us) _ _ _
  obtain ⟨hp, g, dr, tk, os⟩ := s1
  have over : hp.objs.size ≤ hp.objs.size + 1 := Nat.le_succ _
  have new : H1 (hp.objs.size + 1) = none := I1.hok.fresh over
  have want := q1 (hp.objs.size + 1) new
  have stays : ∀ b o, hp.get? b = some o → ((hp.push (PySem.W.kdv_tup us)).push (PySem.HandSPX.excO C hp.objs.size)).get? b = some o := fun b o z =>
    Heap.get?_push_of_some _ (Heap.get?_push_of_some _ z)
  have made : ((hp.push (PySem.W.kdv_tup us)).push (PySem.HandSPX.excO C hp.objs.size)).get? (hp.objs.size + 1) = some (PySem.HandSPX.excO C hp.objs.size) := by
    heap_get
  have I2 := I1.laid (t' := tk) (a := hp.objs.size + 1) (o := exo (hp.objs.size + 1) C none)
    (h' := (hp.push (PySem.W.kdv_tup us)).push (PySem.HandSPX.excO C hp.objs.size)) stays over (exo_ok made)
  have r2 : Vals (V.ref (hp.objs.size + 1) :: (vs ++ dvs)) (Value.ref (hp.objs.size + 1) :: (us ++ ds)) := .cons rfl (r1.append hd)
  have lens : (Value.ref (hp.objs.size + 1) :: us ++ ds).length = ps.length := by
    have z := r2.length
    rw [F1.len _ _ _ _ want] at z
    exact z.symm
  have small : us.length ≤ sizeLine := by
    rw [← Paired.length r1, sizeLine_eq]
    omega
  refine wpAny_call (PySem.HandSPX.call_own F.excBase_OverflowError (fun _ => rfl) (I1.kIn _ _ hC) (PySem.W.looks_findIn I1.kIn iC)
    (fun self => PySem.W.bind_fn I1.kIn self tI) small ?_)
  refine codeAny_mono (F1.run _ X.stack _ _ ⟨Value.ref (hp.objs.size + 1) :: us, []⟩ (Value.ref (hp.objs.size + 1) :: (us ++ ds)) _ _ (fun _ _ _ => False)
    (hr.make C us []) (I2.env0.make C us []) (hb _ (Value.ref (hp.objs.size + 1) :: us) I2.kIn lens) r2 want) fun r s2 back => ?_
  match r, back with
  | .error er, back => exact hx pins σ _ _ er s2 I2 back
  | .ok (.ret u), back =>
    obtain ⟨v, H2, os2, bare2, un2, hok2, rv, ev, d, fs, ea, ed, hd1, q2⟩ := back
    subst ev
    obtain ⟨h2, g2, d2, t2, os'⟩ := s2
    exact ⟨rv, mk_end (raises_own T.base T.ofType) I1 over stays un2 hok2 os2 bare2 ea ed hd1 q2⟩
end
end My

set_option maxHeartbeats 4000000
/-! an own error over LookupError whose __init__ stores no field -/
namespace My
open PySem PySem.Spec PyProof.Rows L2
def leTail : List Value := [.type "LookupError", .type "Exception", .type "BaseException", .type "object"]
structure NthC (K : PySem.W.Frag) (C : Addr) : Prop where
  look : ∃ nm q N bs sn sub ab col dd k0 k1 k2 k3 k5, K.lookup C = some (excClassObj nm q C N bs leTail true sn sub ab col dd k0 k1 k2 k3 k5 "LookupError.__new__")
  sa : PySem.W.findIn K (.ref C) "__setattr__" = some (some (.builtin "object.__setattr__"))
  exC : PySem.W.subIn K (.ref C) (.type "BaseException") = some true
  tyC : PySem.W.typeIn K (.ref C) = some (.type "type")
  kC : PySem.W.keepIn K (.ref C) = true
section
variable {X : Cx} {pins : List (Addr × Obj)} {σ : L2.St} {H : Hp} {s : Shared} {a C dx : Addr} {A : Around} {E : Value → Shared → Prop}
theorem linit_ok {us : List Value} {Q : Value → Shared → Prop} (T : NthC X.K C) (I : Inv X pins σ H s) (e : H a = some (exo a C none)) (hl : us.length ≤ sizeLine) (h : ∀ s', Inv X pins σ H s' → Q .none s') :
    wpAny (model X.prog X.w) A (call (.builtin "LookupError.__init__") (.ref a :: us)) Q E s := by
  obtain ⟨nm, q, N, bs, sn, sub, ab, col, dd, k0, k1, k2, k3, k5, hC⟩ := T.look
  obtain ⟨t1, ho⟩ := exo_at I.hok e
  obtain ⟨hp, g, d, t, os⟩ := s
  refine wpAny_call (PySem.HandSPX.init_base F.excBase_LookupError (fun _ => rfl) (I.kIn _ _ hC) ho hl fun h' t2 k hx => ?_)
  have J := I.write (t' := t) (x := a) (e := a) (o := exo a C none) (by rw [e]; exact True.intro) (.inl rfl) k ⟨_, hx⟩ (exo_ok hx)
  have eu : upd H a (exo a C none) = H := by
    funext b
    by_cases hb : b = a
    · rw [hb, upd_same, e]
    · rw [upd_ne hb]
  rw [eu] at J
  exact h _ J
end
def tLeI (K : PySem.W.Frag) (ta : TA) : TE := fun σ H Q => ta σ H fun vs H1 => ∃ (a C : Addr) (ws : List V), vs = .ref a :: ws ∧ ws.length ≤ 1000 ∧ NthC K C ∧ H1 a = some (exo a C none) ∧ Q .non H1
section
variable {X : Cx} {e : Expr} {es : List Expr} {ta : TA} {p1 p2 pos : Pos}
theorem pe_leinit {pl : Sem Bool} (hg : Gl X "LookupError") (hm : X.mg "LookupError" = none) (vV : PySem.W.findCls X.K (.type "LookupError") (.type "type") "__init__" = some (.val (.builtin "LookupError.__init__"))) (ha : PA X (e :: es) ta)
    (hc : eval (.Call (.Attribute (.Name "LookupError" p1) "__init__" p2) (e :: es) [] pos) X.env = (do
      let ov ← eval (.Name "LookupError" p1) X.env
      standAt p2.atName
      let (f, first) ← holding [ov] (getMethod ov "__init__" pl)
      callWith pos f first (backTo pos (starEach (e :: es) X.env)) (backToKw pos (keywordEach [] X.env))) := by rfl)
    (he : starEach (e :: es) X.env = (false, eval e X.env) :: starEach es X.env := by rfl) (hpl : (backTo pos (starEach es X.env)).any (·.1) = false := by rfl) :
    PE X (.Call (.Attribute (.Name "LookupError" p1) "__init__" p2) (e :: es) [] pos) (tLeI X.K ta) := by
  refine ⟨fun pins s σ H Q I h => ?_⟩
  refine PySem.W.methodCall_KW (ld_blt I hg hm PyProof.Rows.Boot.«LookupError» ?_ (by decide) (by decide)) hc
  obtain ⟨m, fr⟩ := I.fr
  refine PySem.W.method_type fr I.ok.mod.kin (by kernel_rfl) (by decide +kernel) vV (by decide +kernel) ?_
  show wpAny _ _ (callWith pos (Value.builtin "LookupError.__init__") [] (backTo pos (starEach (e :: es) X.env)) []) _ _ _
  refine PyProof.Rows.callWith_method1 (thn (ha.run pos pins _ σ H _ (I.tok _) h) fun us s1 ⟨vs, H1, I1, r1, a, C, ws, ev, hl, T, ea, q⟩ => ?_) he hpl
  subst ev
  cases r1 with
  | @cons _ u0 _ ur ra rw' =>
    obtain rfl : u0 = Value.ref a := ra
    have hlen : ur.length ≤ sizeLine := by
      rw [← Paired.length rw', sizeLine_eq]
      omega
    exact linit_ok T I1 ea hlen fun s' J => ⟨.non, H1, J, rfl, q⟩
theorem pmkN {x : Str} {C fI : Addr} {k : Nat} {fd : FuncData} {ps : List Str} {sp : Sp} {p : Pos}
    (T : NthC X.K C) (iC : PySem.W.findIn X.K (.ref C) "__init__" = some (some (.ref fI))) (tI : PySem.W.typeIn X.K (.ref fI) = some (.type "function"))
    (F1 : FnOk X.prog X.w X.K X.mg X.base CX0 k fI fd ps sp) (hr : Room (k + 1) X.A) (hb : Binds X.K fd ps []) (hm : X.mg x = some (.ref C)) (ha : PA X (e :: es) ta) (hg : Gl X x := by rfl)
    (hdb : (x == ("__debug__" : Str)) = false := by decide) (he : starEach (e :: es) X.env = (false, eval e X.env) :: starEach es X.env := by rfl)
    (hpl : (backTo pos (starEach es X.env)).any (·.1) = false := by rfl) : PMk X (.Call (.Name x p) (e :: es) [] pos) (tMk0 C sp ta) := by
  intro pins s σ H Q I h
  obtain ⟨nm, q, N, bs, sn, sub, ab, col, dd, k0, k1, k2, k3, k5, hC⟩ := T.look
  refine wpAny_Call_Name_kw (ld_glob I hg hm ?_ hdb)
  refine PySem.W.callWith_K (h₀ := X.base) I.ok.mod.kin T.kC
    (thn (ha.run pos pins s σ H _ I h) fun us s1 ⟨vs, H1, I1, rel, few, want⟩ => ⟨I1.kIn, ?_⟩) he hpl
  show wpAny _ _ (call (.ref C) us) _ _ _
  obtain ⟨hp, g, dr, tk, os⟩ := s1
  have up : hp.objs.size ≤ hp.objs.size + 1 := Nat.le_succ _
  have goal1 := want (hp.objs.size + 1) (I1.hok.fresh up)
  have kept : ∀ b o, hp.get? b = some o → ((hp.push (PySem.W.kdv_tup us)).push (PySem.HandSPX.excO C hp.objs.size)).get? b = some o :=
    fun b o e => Heap.get?_push_of_some _ (Heap.get?_push_of_some _ e)
  have there : ((hp.push (PySem.W.kdv_tup us)).push (PySem.HandSPX.excO C hp.objs.size)).get? (hp.objs.size + 1) = some (PySem.HandSPX.excO C hp.objs.size) := by
    heap_get
  have I2 : Inv X pins σ (upd H1 (hp.objs.size + 1) (exo (hp.objs.size + 1) C none)) ⟨(hp.push (PySem.W.kdv_tup us)).push (PySem.HandSPX.excO C hp.objs.size), g, dr, tk, os⟩ :=
    I1.laid (t' := tk) (o := exo (hp.objs.size + 1) C none) kept up
      (exo_ok there)
  have rel2 : Vals (V.ref (hp.objs.size + 1) :: vs) (Value.ref (hp.objs.size + 1) :: us) := .cons rfl rel
  have len : (Value.ref (hp.objs.size + 1) :: us ++ []).length = ps.length := by
    have z := rel2.length
    rw [F1.len _ _ _ _ goal1] at z
    rw [List.append_nil]
    exact z.symm
  have small : us.length ≤ sizeLine := by
    rw [← Paired.length rel]
    exact Nat.le_trans few (by decide)
  have bind0 := hb _ (Value.ref (hp.objs.size + 1) :: us) I2.kIn len
  rw [List.append_nil] at bind0
  refine wpAny_call (PySem.HandSPX.call_own F.excBase_LookupError (fun _ => rfl) (I1.kIn _ _ hC)
    (PySem.W.looks_findIn I1.kIn iC) (fun self => PySem.W.bind_fn I1.kIn self tI) small
    (codeAny_mono (F1.run _ X.stack _ _ ⟨Value.ref (hp.objs.size + 1) :: us, []⟩ (Value.ref (hp.objs.size + 1) :: us) _ _ (fun _ _ _ => False) (hr.make C us []) (I2.env0.make C us []) bind0 rel2 goal1) ?_))
  intro r s' hq
  match r, hq with
  | .error er, hq => exact (show False from hq).elim
  | .ok (.ret u), hq =>
    obtain ⟨v, H2, os2, bare2, un2, ok2, rv, rfl, ea, q2⟩ := hq
    obtain ⟨h2, g2, d2, t2, os'⟩ := s'
    obtain ⟨t0, G, J, inG, gone, obj⟩ := end_nodict (d2 := d2) (t2 := t2) I1 up kept un2 ok2 os2 bare2 ea
    exact ⟨rv, hp.objs.size + 1, _, _, ⟨G, g2, d2, t2, os'⟩, _, .ref C, none, rfl, J, inG, gone, obj, ⟨rfl, rfl⟩, rfl, rfl, del_same, rfl, bare2, raises_own T.exC T.tyC, q2⟩
end
end My

/-! an instance called, within a lambda: the reading does not name what stands around -/
namespace My
open PySem PySem.Spec PyProof.Rows L2
def tCallI (C : Addr) (sp : Sp) (E : XK) (tf : TE) (t : TA) : TE := fun σ H Q => tf σ H fun y H1 => ∃ a, y = V.ref a ∧ t σ H1 fun vs H2 => ((∃ dx vs, SlX.Slt H2 a C dx vs) ∨ ∃ dx fs, H2 a = some (.ins C dx fs)) ∧ sp (V.ref a :: vs) H2 Q E
theorem pe_callI {X : Cx} {CX : CXT} {k : Nat} {C g : Addr} {sp : Sp} {E : XK} {fe e : Expr} {es : List Expr} {tf : TE} {t : TA} {pos : Pos} (hf : PE X fe tf) (c : StX.CallO X.K C g) (F : FnR X.prog X.w X.K X.mg X.base CX k g sp) (hr : Room k X.A) (hx : Passes CX X E) (ha : PA X (e :: es) t)
    (ht : eval (.Call fe (e :: es) [] pos) X.env = (do callWith pos (← eval fe X.env) [] (backTo pos (starEach (e :: es) X.env)) (backToKw pos (keywordEach [] X.env))) := by rfl)
    (he : starEach (e :: es) X.env = (false, eval e X.env) :: starEach es X.env := by rfl) (hpl : (backTo pos (starEach es X.env)).any (·.1) = false := by rfl) : PE X (.Call fe (e :: es) [] pos) (tCallI C sp E tf t) :=
  StX.pe_callO hf c F hr hx ha ht he hpl
end My

/-! own ==, len, += of instances with a dict -/
namespace My
open PySem PySem.Spec PyProof.Rows L2 StX
/-- what isinstance asks of an own class; nothing of a built-in type is of it -/
structure IsC (K : PySem.W.Frag) (C : Addr) : Prop where
  ca : PySem.W.findIn K (.ref C) "__class__" = some (some (.builtin "object.__class__"))
  cn : PySem.W.specialIn K (.builtin "object.__class__") "__get__" = some (some (.builtin "getset_descriptor.__get__"))
  ct : PySem.W.takesIn K (.builtin "object.__class__") = some true
  cm : PySem.W.mroIn K C (.type "object") = some true
  no : ∀ T : String, T ∈ ["NoneType", "bool", "int", "str", "list", "tuple", "dict"] → PySem.W.kitOne K (.type T) (.ref C) = some false
theorem kit_noT {K : PySem.W.Frag} {C : Addr} {T : String} (isC : PySem.W.isClsIn K C = true) (tC : PySem.W.typeIn K (.ref C) = some (.type "type")) (s : PySem.W.subIn K (.type T) (.ref C) = some false) : PySem.W.kitOne K (.type T) (.ref C) = some false := by
  have h : (PySem.W.clsIn K C).isSome = true := isC
  unfold PySem.W.kitOne
  rw [if_neg (fun z => by have := beq_iff_eq.mp z; cases this)]
  show (if ((PySem.W.clsIn K C).isSome && PySem.W.typeIn K (.ref C) == some (.type "type")) = true then PySem.W.subIn K (.type T) (.ref C) else none) = some false
  rw [if_pos (by rw [h, tC]; rfl), s]
theorem kit_selfC {K : PySem.W.Frag} {C : Addr} : PySem.W.kitOne K (.ref C) (.ref C) = some true := by
  unfold PySem.W.kitOne
  rw [if_pos (by simp)]
theorem isc_no {K : PySem.W.Frag} {C : Addr} (isC : PySem.W.isClsIn K C = true) (tC : PySem.W.typeIn K (.ref C) = some (.type "type")) (h1 : PySem.W.subIn K (.type "NoneType") (.ref C) = some false) (h2 : PySem.W.subIn K (.type "bool") (.ref C) = some false) (h3 : PySem.W.subIn K (.type "int") (.ref C) = some false)
    (h4 : PySem.W.subIn K (.type "str") (.ref C) = some false) (h5 : PySem.W.subIn K (.type "list") (.ref C) = some false) (h6 : PySem.W.subIn K (.type "tuple") (.ref C) = some false) (h7 : PySem.W.subIn K (.type "dict") (.ref C) = some false) :
    ∀ T : String, T ∈ ["NoneType", "bool", "int", "str", "list", "tuple", "dict"] → PySem.W.kitOne K (.type T) (.ref C) = some false := by
  intro T hT
  simp only [List.mem_cons, List.not_mem_nil, or_false] at hT
  rcases hT with rfl | rfl | rfl | rfl | rfl | rfl | rfl
  · exact kit_noT isC tC h1
  · exact kit_noT isC tC h2
  · exact kit_noT isC tC h3
  · exact kit_noT isC tC h4
  · exact kit_noT isC tC h5
  · exact kit_noT isC tC h6
  · exact kit_noT isC tC h7
theorem IsC.ty {K : PySem.W.Frag} {C a dx : Addr} {H : Hp} {fs : List (Str × V)} (h : IsC K C) (cl : Cls K C) (e : H a = some (.ins C dx fs)) : TyX K H (.ref a) (.ref C) := .base (.ins e cl h.ca h.cn h.ct h.cm)
section
variable {X : Cx} {CX : CXT} {n : Nat} {C g : Addr} {sp : Sp} {E : XK}
theorem inst_of {pins : List (Addr × Obj)} {σ : L2.St} {H : Hp} {s : Shared} {a dx : Addr} {fs : List (Str × V)} (I : Inv X pins σ H s) (h : H a = some (.ins C dx fs)) : ∃ ox od, PySem.W.InstAt s.heap a ox C od := by
  obtain ⟨mA, O, _⟩ := ins_get I.hok h
  obtain ⟨od, J, _⟩ := O.look
  exact ⟨_, _, J⟩
/-- x op y, both instances of C, C's def for op at g -/
def rCmpI (K : PySem.W.Frag) (C : Addr) (sp : Sp) (E : XK) : R2 := fun x y H Q => ∃ a dx fs b dy gs, x = .ref a ∧ y = .ref b ∧ H a = some (.ins C dx fs) ∧ H b = some (.ins C dy gs) ∧ sp [x, y] H Q E
theorem op_cmpI {op : CmpOp} (hop : ∀ a b, compareOp op a b = richCompare op a b) (hs : PySem.W.findIn X.K (.ref C) (cmpInfo op).2.1 = some (some (.ref g))) (hf : PySem.W.isFn X.K (.ref g) = true)
    (F : FnR X.prog X.w X.K X.mg X.base CX n g sp) (hr : Room n X.A) (hx : Passes CX X E) : OpR X (compareOp op) (rCmpI X.K C sp E) := by
  rintro pins s σ H x y v u Q I rx ry ⟨a, dx, fs, b, dy, gs, rfl, rfl, ha, hb, q⟩
  cases (show v = Value.ref a from rx)
  cases (show u = Value.ref b from ry)
  obtain ⟨_, _, J⟩ := inst_of I ha
  obtain ⟨_, _, J'⟩ := inst_of I hb
  obtain ⟨m, hF⟩ := I.fr
  have hn : PySem.W.notFirst X.K C (.ref C) = true := by
    show ((Value.ref C == Value.ref C) || _) = true
    rw [show (Value.ref C == Value.ref C) = true from by simp, Bool.true_or]
  rw [hop]
  exact PySem.W.cmp_K (op := op) (tb := .ref C) hr.units0 hF I.ok.mod.kin J J'.type hn hs hf
    (wpAny_mono (wpAny_call (run_fnR (us := [.ref a, .ref b]) (vs := [.ref a, .ref b]) F hr hx I (.cons rfl (.cons rfl .nil)) q)) (fun w s' ⟨z', H', I', rz, qz⟩ => SlX.cmpback rz ⟨z', H', I', rz, qz⟩) fun _ _ x => x)
/-- len(x) -/
def rLenI (C : Addr) (sp : Sp) (E : XK) : List V → Hp → VK → Prop := fun xs H Q => ∃ a dx fs, xs = [V.ref a] ∧ H a = some (.ins C dx fs) ∧ sp [.ref a] H (fun z H' => ∃ n : Int, z = .int n ∧ 0 ≤ n ∧ n < 2 ^ 63 ∧ Q (.int n) H') E
theorem call_lenI (hs : PySem.W.findIn X.K (.ref C) "__len__" = some (some (.ref g))) (hf : PySem.W.isFn X.K (.ref g) = true) (F : FnR X.prog X.w X.K X.mg X.base CX n g sp) (hr : Room (n + 1) X.A) (hx : Passes CX X E) : CallR X (.builtin "len") (rLenI C sp E) := by
  rintro pins s σ H xs us Q I r ⟨a, dx, fs, rfl, ha, q⟩
  obtain ⟨u, rfl, ru⟩ := r.one
  cases (show u = Value.ref a from ru)
  obtain ⟨_, _, J⟩ := inst_of I ha
  obtain ⟨m, hF⟩ := I.fr
  refine PySem.W.len_K hF I.ok.mod.kin J hs hf (wpAny_mono (wpAny_call (SlX.run_at (us := [.ref a]) (ws := [.ref a]) F hr.in1 I.env0.in1 hx I (.cons rfl .nil) q)) (fun w s' z => ?_) fun _ _ x => x)
  obtain ⟨z', H', I', rz, k, ek, k0, k1, qz⟩ := z
  subst ek
  obtain ⟨t, e⟩ := (show ∃ t, w = Value.int k t from rz)
  cases e
  exact ⟨⟨k0, k1⟩, .int k, H', I'.tok _, ⟨_, rfl⟩, qz⟩
/-- x += y -/
def tIpI (C : Addr) (sp : Sp) (E : XK) : TIp := fun x y H Q => ∃ a dx fs, x = .ref a ∧ H a = some (.ins C dx fs) ∧ sp [x, y] H Q E
theorem ip_ownI (hc : PySem.W.selfFirst X.K C = true) (hs : PySem.W.findIn X.K (.ref C) "__iadd__" = some (some (.ref g))) (hf : PySem.W.isFn X.K (.ref g) = true) (F : FnR X.prog X.w X.K X.mg X.base CX n g sp) (hr : Room n X.A) (hx : Passes CX X E) : PIp X .Add (tIpI C sp E) := by
  rintro pins s σ H x y v u Q I rx ry ⟨a, dx, fs, rfl, ha, q⟩
  cases (show v = Value.ref a from rx)
  obtain ⟨_, _, J⟩ := inst_of I ha
  obtain ⟨m, hF⟩ := I.fr
  refine PySem.W.ksp_inplace (op := .Add) hF I.ok.mod.kin J hc hs hf (wpAny_mono (wpAny_call (run_fnR (us := [.ref a, u]) (vs := [.ref a, y]) F hr hx I (.cons rfl (.cons ry .nil)) q)) (fun w s' ⟨z', H', I', rz, qz⟩ => SlX.cmpback rz ⟨z', H', I', rz, qz⟩) fun _ _ x => x)
end
end My

/-! (v,) * k for great k -/
namespace My
open PySem PySem.Spec PyProof.Rows L2
theorem rep_flat1 {α : Type} (v : α) : ∀ n : Nat, (List.replicate n [v]).flatten = List.replicate n v
  | 0 => rfl
  | n + 1 => by rw [List.replicate_succ, List.flatten_cons, rep_flat1 v n, List.replicate_succ]; rfl
def rRepW (K : PySem.W.Frag) : R2 := fun x y H Q => ∃ (a : Addr) (n : Nat) (z : V), x = .ref a ∧ y = .int (n : Int) ∧ SqT K H a [z] ∧ 2 ≤ n ∧ n ≤ 9000 ∧
  ∀ b, H b = none → Q (.ref b) (upd H b (.tup (List.replicate n z)))
set_option maxHeartbeats 4000000 in
theorem op_repW {X : Cx} : OpR X (binaryOp .Mult) (rRepW X.K) := by
  intro pins st σ H x y v u Q I rx ry want
  obtain ⟨a, n, z, rfl, rfl, seq, low, most, q⟩ := want
  cases rx
  obtain ⟨tk, rfl⟩ := ry
  obtain ⟨vals, rel, ⟨⟨cl, dict, data, slots⟩, found, isT, m, isS⟩, small⟩ := I.tuple seq
  simp only at isT isS
  subst isT isS
  obtain ⟨it, rfl⟩ : ∃ it, vals = [it] := by
    have := rel.length
    match vals, this with
    | [it], _ => exact ⟨it, rfl⟩
  have line := sizeLine_eq
  have one : ([it].toArray.size : Nat) = 1 := rfl
  have flatLen : (List.replicate n [it]).flatten.length = n := by rw [rep_flat1, List.length_replicate]
  have flatNat : (n : Int).toNat = n := by omega
  have many : (List.foldl (fun x1 x2 => x1 ++ x2) #[] (List.replicate (n : Int).toNat [it].toArray)).size ≤ sizeLine := by
    rw [size_rep, List.size_toArray, flatNat, flatLen, line]
    omega
  have bound0 : (decide ((n : Int) < -(2 ^ 63)) || decide ((n : Int) ≥ 2 ^ 63)) = false := by
    rw [decide_eq_false (by omega), decide_eq_false (by omega)]
    rfl
  have bound1 : ([it].toArray.isEmpty || (n : Int) == 1) = false := by
    rw [show [it].toArray.isEmpty = false from rfl, Bool.false_or, beq_eq_false_iff_ne]
    omega
  have bound2 : (decide ((n : Int) ≤ 0) || [it].toArray.isEmpty) = false := by
    rw [show [it].toArray.isEmpty = false from rfl, decide_eq_false (by omega)]
    rfl
  have bound3 : ¬ (([it].toArray.size : Nat) : Int) * (n : Int) > (2 ^ 63 - 1) / 8 := by
    rw [one]
    omega
  have bound4 : Builtin.Tuple.tupleTooMany ((([it].toArray.size : Nat) : Int) * (n : Int)) = false := by
    unfold Builtin.Tuple.tupleTooMany
    rw [line, one, decide_eq_false (by omega)]
  have mulled := tuple_mulW a [it].toArray m dict slots (n : Int) tk bound0 bound1 bound2 bound3 bound4 many
  refine wpAny_binaryOp_repeat_ref (T := "tuple") (U := "int") (by decide) ⟨_, found, rfl⟩ (fun s2 => typeIs_int s2 (n : Int) tk)
    noFill_tuple_mul F.fills_int_mul F.slot_int_rmul
    repeat_tuple F.slot_int_index.lookup ?_
  refine call_meets F.slot_int_rmul (typeIs_int st (n : Int) tk) F.entry_int_rmul (F.args_int_rmul_2 _ _)
    (int_rmul_tuple (n : Int) tk a [it].toArray m dict slots) ⟨found, rfl, ⟨_, found, rfl⟩, ?_⟩
  refine call_meets F.slot_tuple_mul ⟨_, found, rfl⟩ F.entry_tuple_mul
    (F.args_tuple_mul_2 _ _) mulled ⟨found, ?_⟩
  rw [size_rep, flatNat, rep_flat1]
  refine ⟨.ref st.heap.objs.size, _, I.laid (t' := st.toks) (o := .tup (List.replicate n z)) (fun b ob q => Heap.get?_push_of_some _ q)
    (Nat.le_refl _) ?_, rfl, q _ (I.hok.fresh (Nat.le_refl _))⟩
  refine ⟨by rw [List.length_replicate, line]; omega, List.replicate n it, ?_, IsTup.new _ _⟩
  have r1 := rel.rep n
  rw [rep_flat1, rep_flat1] at r1
  exact r1
end My

/-! (v,) * k, k from 1 on -/
namespace My
open PySem PySem.Spec PyProof.Rows L2
set_option maxHeartbeats 4000000 in
theorem mul_one (a : Addr) (items : Array Value) (m : Nat) (dict : Option Addr) (slots : Array (Option Value)) (u : Tok) :
    Meets (Builtin.«tuple.__mul__» ⟨[.ref a, .int 1 u], []⟩) (fun _ R s => s.heap.get? a = some { cls := .type "tuple", dict := dict, data := .seq items m, slots := slots } ∧
      R (.ok (.ret (.ref a))) s) :=
  .of_wp fun prog w A R s h => by
    obtain ⟨hp, g, d, tk, os⟩ := s
    obtain ⟨at0, h⟩ := h
    have f1 := AutoSeq1.idx_int
    wp_walk using wpAny_loadPart' at0
    exact ⟨_, rfl, h⟩
def rRepU (K : PySem.W.Frag) : R2 := fun x y H Q => ∃ (a : Addr) (n : Nat) (z : V), x = .ref a ∧ y = .int (n : Int) ∧ SqT K H a [z] ∧ 1 ≤ n ∧ n ≤ 9000 ∧
  ∀ b H', Same H H' → SqT K H' b (List.replicate n z) → Q (.ref b) H'
set_option maxHeartbeats 4000000 in
theorem op_repU {X : Cx} : OpR X (binaryOp .Mult) (rRepU X.K) := by
  intro pins st σ H x y v u Q I rx ry want
  obtain ⟨a, n, z, rfl, rfl, seq, low, most, q⟩ := want
  by_cases h1 : n = 1
  · subst h1
    cases rx
    obtain ⟨tk, rfl⟩ := ry
    obtain ⟨vals, rel, ⟨⟨cl, dict, data, slots⟩, found, isT, m, isS⟩, small⟩ := I.tuple seq
    simp only at isT isS
    subst isT isS
    refine wpAny_binaryOp_repeat_ref (T := "tuple") (U := "int") (by decide) ⟨_, found, rfl⟩ (fun s2 => typeIs_int s2 ((1 : Nat) : Int) tk)
      noFill_tuple_mul F.fills_int_mul F.slot_int_rmul
      repeat_tuple F.slot_int_index.lookup ?_
    refine call_meets F.slot_int_rmul (typeIs_int st ((1 : Nat) : Int) tk) F.entry_int_rmul (F.args_int_rmul_2 _ _)
      (int_rmul_tuple ((1 : Nat) : Int) tk a vals.toArray m dict slots) ⟨found, rfl, ⟨_, found, rfl⟩, ?_⟩
    refine call_meets F.slot_tuple_mul ⟨_, found, rfl⟩ F.entry_tuple_mul
      (F.args_tuple_mul_2 _ _) (mul_one a vals.toArray m dict slots tk) ⟨found, ?_⟩
    exact ⟨.ref a, H, I, rfl, q a H (Same.refl H) seq⟩
  · refine op_repW pins st σ H _ _ v u Q I rx ry ⟨a, n, z, rfl, rfl, seq, by omega, most, fun b hb => ?_⟩
    exact q b _ (same_new hb) (.inl (.inl upd_same))
end My

/-! x != y of instances whose class has an own == and no own != ; x == y where y is a thing of a built-in type -/
namespace My
open PySem PySem.Spec PyProof.Rows PySem.Calls PySem.W
section
variable {prog : Program} {w : World} {A A₀ : Around} {E : Value → Shared → Prop} {s : Shared} {K : Frag} {x C L f : Addr} {h₀ : Heap} {m : Str → Option Value} {ox : Obj} {od : Option Obj} {name : Str} {b tb : Value}
theorem ifBound_Kb {M : Model} {id : String} {args : List Value} {Q : Option Value → Shared → Prop} (X : K.In s.heap) (I : InstAt s.heap x ox C od) (hs : findIn K (.ref C) name = some (some (.builtin id)))
    (hb : ∀ self, bindSpecial (.builtin id) self = pure (.builtin id, [self])) (h : wpAny M A (call (.builtin id) (.ref x :: args)) (fun v => Q (some v)) E s) : wpAny M A (callSpecialIfBound? (.ref x) name args) Q E s := by
  simp only [callSpecialIfBound?, bindSpecialIfBound?]
  refine wpAny_holding (wpAny_bind (wpAny_bind (wpAny_bind (I.type.here ((looks_findIn X hs).here ?_)))))
  simp only [hb]
  refine wpAny_bind (wpAny_askSetting (wpAny_ite ?_))
  have fin : wpAny M A (call (.builtin id) ([.ref x] ++ args) >>= fun v => pure (some v)) Q E s := wpAny_bind (wpAny_mono h (fun v s' h' => wpAny_pure h') fun _ _ h' => h')
  split
  · exact wpAny_bind (wpAny_pure (wpAny_pure fin))
  · exact wpAny_tryCatch (wpAny_bind (wpAny_pure (wpAny_pure fin)))
theorem objNe_K {Q : Fin → Shared → Prop} (X : K.In s.heap) (I : InstAt s.heap x ox C od) (heq : findIn K (.ref C) "__eq__" = some (some (.ref f))) (hf : isFn K (.ref f) = true) (hu : A.units < cLine)
    (hcall : wpAny (model prog w) A (call (.ref f) [.ref x, b]) (fun v s' => ∃ c, v = .bool c ∧ Q (.done (.ret (.bool (!c)))) s') E s) :
    wpAny (model prog w) A (Builtin.«object.__ne__» ⟨[.ref x, b], []⟩) Q E s := by
  unfold Builtin.«object.__ne__»
  repeat (first
    | with_reducible refine wpAny_cRoomFor hu ?_
    | (refine wpAny_bind (m := callSpecialIfBound? (.ref x) (Str.ofString "__eq__") [b])
        (ifBound_K X I heq hf (wpAny_mono hcall (fun r s' hr => by
          obtain ⟨b, rfl, hq⟩ := hr
          repeat (first | exact hq | exact wpAny_pure hq | exact wpAny_truthy_bool hq | (refine wpAny_bind (m := truthy (.bool _)) (wpAny_truthy_bool ?_)) | wp_step)) fun _ _ e => e)))
    | wp_step)
theorem ne_K {Q : Value → Shared → Prop} (hu : A.units + 1 < cLine) (Ff : Fr h₀ L s.heap m) (X₀ : K.In h₀) (I : InstAt s.heap x ox C od) (hb : Looks (model prog w) s.heap (typeOf b) tb) (hn : notFirst K C tb = true)
    (hne : findIn K (.ref C) "__ne__" = some (some (.builtin "object.__ne__"))) (heq : findIn K (.ref C) "__eq__" = some (some (.ref f))) (hf : isFn K (.ref f) = true) (cm : mroIn K C (.type "object") = some true)
    (h : wpAny (model prog w) A.in1 (call (.ref f) [.ref x, b]) (fun v s' => ∃ c, v = .bool c ∧ Q (.bool (!c)) s') E s) : wpAny (model prog w) A (richCompare .NotEq (.ref x) b) Q E s := by
  have X := X₀.keeps Ff.keep
  have one : wpAny (model prog w) A (tryCompare (.ref x) (cmpInfo .NotEq).2.1 b) (fun r s' => ∃ v, r = some v ∧ Q v s') E s := by
    unfold tryCompare
    refine wpAny_bind (ifBound_Kb (id := "object.__ne__") X I hne PySem.F.cmp_object.ne.bind (wpAny_call (codeAny_call_builtin PySem.F.cmp_object.ne.plain PySem.F.cmpEntry_ne
      (check_slot PySem.F.cmpKind_ne PySem.F.cmpSplit_ne (I.type.andThen (looks_mroIn X cm)) (PySem.F.cmpArgs_ne _ _) (objNe_K (A := A.in1) X I heq hf hu (wpAny_mono h (fun v s' hv => ?_) fun _ _ e => e))))))
    obtain ⟨c, rfl, hq⟩ := hv
    exact ⟨c, rfl, wpAny_pure ⟨_, rfl, hq⟩⟩
  unfold richCompare
  simp only [oneThing_ref]
  refine wpAny_holding (wpAny_bind (wpAny_cRoomFor (Nat.lt_of_succ_lt hu) ?_))
  refine wpAny_bind (I.type.here (wpAny_bind (hb.here ?_)))
  split
  · rename_i q
    have e : subIn K tb (.ref C) = some false := by
      rcases Bool.or_eq_true_iff.mp hn with e | e
      · rw [beq_iff_eq.mp e] at q; simp at q
      · exact beq_iff_eq.mp e
    refine wpAny_bind ((looks_subIn X e).here ?_)
    simp only [Bool.false_eq_true, if_false]
    refine wpAny_bind (wpAny_mono one (fun r s' z => ?_) fun _ _ e => e)
    obtain ⟨v, rfl, hq⟩ := z
    exact wpAny_pure hq
  · refine wpAny_bind (wpAny_pure ?_)
    simp only [Bool.false_eq_true, if_false]
    refine wpAny_bind (wpAny_mono one (fun r s' z => ?_) fun _ _ e => e)
    obtain ⟨v, rfl, hq⟩ := z
    exact wpAny_pure hq
end
end My
namespace My
open PySem PySem.Spec PyProof.Rows L2 StX PySem.W
section
variable {X : Cx} {CX : CXT} {n : Nat} {C g : Addr} {sp : Sp} {E : XK}
theorem looks_obj {M : Model} {h : Heap} {a : Addr} {o : Obj} {T : String} (e : h.get? a = some o) (c : o.cls = .type T) : Looks M h (typeOf (.ref a)) (.type T) := c ▸ (Looks.ld e).andThen .now
theorem tyX_looks {M : Model} {pins : List (Addr × Obj)} {σ : L2.St} {H : Hp} {s : Shared} {x : V} {u : Value} {T : String} (I : Inv X pins σ H s) (rx : RelV x u) (ty : TyX X.K H x (.type T)) : Looks M s.heap (typeOf u) (.type T) := by
  cases ty with
  | base b =>
    cases b with
    | non => cases (show u = Value.none from rx); exact Looks.of_pure rfl
    | bl y => cases (show u = Value.bool y from rx); exact Looks.of_pure rfl
    | int i => obtain ⟨t, q⟩ := (show ∃ t, u = Value.int i t from rx); cases q; exact Looks.of_pure rfl
    | str y => obtain ⟨t, q⟩ := (show ∃ t, u = Value.str y t from rx); cases q; exact Looks.of_pure rfl
    | flt y => obtain ⟨t, q⟩ := (show ∃ t, u = Value.float y t from rx); cases q; exact Looks.of_pure rfl
    | @lst a xs ea =>
      cases (show u = Value.ref a from rx)
      obtain ⟨_, _, n, _, h1⟩ := (show ObjOk X.prog X.w H s.heap a (.lst xs) from I.hok a _ ea)
      exact looks_obj h1 rfl
    | @frz a ob xs ea =>
      cases (show u = Value.ref a from rx)
      obtain ⟨_, _, _, n, _, h1⟩ := (show ObjOk X.prog X.w H s.heap a (.frz ob (.lst xs)) from I.hok a _ ea)
      exact looks_obj h1 rfl
    | @tup a xs ea =>
      cases (show u = Value.ref a from rx)
      obtain ⟨_, _, _, o, h1, h2, _⟩ := (show ObjOk X.prog X.w H s.heap a (.tup xs) from I.hok a _ ea)
      exact looks_obj h1 h2
    | @dK a kvs ea =>
      cases (show u = Value.ref a from rx)
      obtain ⟨_, _, vs, _, o, es, ep, h1, h2, _⟩ := (show ObjOk X.prog X.w H s.heap a (.dK kvs) from I.hok a _ ea)
      exact looks_obj h1 h2.1
    | @dT a kvs ea =>
      cases (show u = Value.ref a from rx)
      obtain ⟨_, _, xs, _, o, es, ep, h1, h2, _⟩ := (show ObjOk X.prog X.w H s.heap a (.dT kvs) from I.hok a _ ea)
      exact looks_obj h1 h2.1
  | byt y => obtain ⟨t, q⟩ := (show ∃ t, u = Value.bytes y t from rx); cases q; exact Looks.of_pure rfl
  | @set a S n ea =>
    cases (show u = Value.ref a from rx)
    obtain ⟨o, _, _, _, e, ex, _⟩ := I.hok a _ ea
    exact looks_obj e ex.1
  | @kList a o e c =>
    cases (show u = Value.ref a from rx)
    exact looks_obj (I.kIn a o e) c
  | @kTuple a o e c =>
    cases (show u = Value.ref a from rx)
    exact looks_obj (I.kIn a o e) c
  | @kDict a o e c =>
    cases (show u = Value.ref a from rx)
    exact looks_obj (I.kIn a o e) c
  | @fTuple a ob xs ea =>
    cases (show u = Value.ref a from rx)
    obtain ⟨_, _, _, _, o, h1, h2, _⟩ := (show ObjOk X.prog X.w H s.heap a (.frz ob (.tup xs)) from I.hok a _ ea)
    exact looks_obj h1 h2
  | @fDict a ob kvs ea =>
    cases (show u = Value.ref a from rx)
    obtain ⟨_, _, _, vs, _, o, es, ep, h1, h2, _⟩ := (show ObjOk X.prog X.w H s.heap a (.frz ob (.dK kvs)) from I.hok a _ ea)
    exact looks_obj h1 h2.1
theorem sub_of_kit {K : PySem.W.Frag} {T : String} (h : PySem.W.kitOne K (.type T) (.ref C) = some false) : subIn K (.type T) (.ref C) = some false := by
  unfold PySem.W.kitOne at h
  rw [if_neg (fun z => by have := beq_iff_eq.mp z; cases this)] at h
  have h2 : (if ((PySem.W.clsIn K C).isSome && PySem.W.typeIn K (.ref C) == some (.type "type")) = true then PySem.W.subIn K (.type T) (.ref C) else none) = some false := h
  split at h2
  · exact h2
  · cases h2
/-- the other side of a comparison: an instance of the same class, or a thing of a built-in type -/
def Side (K : PySem.W.Frag) (C : Addr) (y : V) (H : Hp) : Prop := (∃ b dy gs, y = .ref b ∧ H b = some (.ins C dy gs)) ∨ ∃ T : String, T ∈ ["NoneType", "bool", "int", "str", "list", "tuple", "dict"] ∧ TyX K H y (.type T)
theorem side_looks {M : Model} {pins : List (Addr × Obj)} {σ : L2.St} {H : Hp} {s : Shared} {y : V} {u : Value} (hC : IsC X.K C) (I : Inv X pins σ H s) (ry : RelV y u) (h : Side X.K C y H) : ∃ tb, Looks M s.heap (typeOf u) tb ∧ notFirst X.K C tb = true := by
  rcases h with ⟨b, dy, gs, rfl, hb⟩ | ⟨T, hT, ty⟩
  · cases (show u = Value.ref b from ry)
    obtain ⟨_, _, J'⟩ := inst_of I hb
    refine ⟨.ref C, J'.type, ?_⟩
    show ((Value.ref C == Value.ref C) || _) = true
    rw [show (Value.ref C == Value.ref C) = true from by simp, Bool.true_or]
  · refine ⟨.type T, tyX_looks I ry ty, ?_⟩
    show ((Value.type T == Value.ref C) || (subIn X.K (.type T) (.ref C) == some false)) = true
    rw [sub_of_kit (hC.no T hT)]
    simp
/-- x op y, x an instance of C, C's def for op at g -/
def rCmpO (K : PySem.W.Frag) (C : Addr) (sp : Sp) (E : XK) : R2 := fun x y H Q => ∃ a dx fs, x = .ref a ∧ H a = some (.ins C dx fs) ∧ Side K C y H ∧ sp [x, y] H Q E
theorem op_cmpO {op : CmpOp} (hop : ∀ a b, compareOp op a b = richCompare op a b) (hC : IsC X.K C) (hs : PySem.W.findIn X.K (.ref C) (cmpInfo op).2.1 = some (some (.ref g))) (hf : PySem.W.isFn X.K (.ref g) = true)
    (F : FnR X.prog X.w X.K X.mg X.base CX n g sp) (hr : Room n X.A) (hx : Passes CX X E) : OpR X (compareOp op) (rCmpO X.K C sp E) := by
  rintro pins s σ H x y v u Q I rx ry ⟨a, dx, fs, rfl, ha, hy, q⟩
  cases (show v = Value.ref a from rx)
  obtain ⟨_, _, J⟩ := inst_of I ha
  obtain ⟨m, hF⟩ := I.fr
  obtain ⟨tb, hb, hn⟩ := side_looks (M := model X.prog X.w) hC I ry hy
  rw [hop]
  exact PySem.W.cmp_K (op := op) (tb := tb) hr.units0 hF I.ok.mod.kin J hb hn hs hf
    (wpAny_mono (wpAny_call (run_fnR (us := [.ref a, u]) (vs := [.ref a, y]) F hr hx I (.cons rfl (.cons ry .nil)) q)) (fun w s' ⟨z', H', I', rz, qz⟩ => SlX.cmpback rz ⟨z', H', I', rz, qz⟩) fun _ _ x => x)
/-- x != y, C with an own == alone -/
def rNeI (K : PySem.W.Frag) (C : Addr) (sp : Sp) (E : XK) : R2 := fun x y H Q => ∃ a dx fs, x = .ref a ∧ H a = some (.ins C dx fs) ∧ Side K C y H ∧ sp [x, y] H (fun z H' => ∃ c, z = .bl c ∧ Q (.bl (!c)) H') E
theorem op_neI (hC : IsC X.K C) (hne : PySem.W.findIn X.K (.ref C) "__ne__" = some (some (.builtin "object.__ne__"))) (hs : PySem.W.findIn X.K (.ref C) "__eq__" = some (some (.ref g))) (hf : PySem.W.isFn X.K (.ref g) = true)
    (F : FnR X.prog X.w X.K X.mg X.base CX n g sp) (hr : Room (n + 1) X.A) (hx : Passes CX X E) : OpR X (compareOp .NotEq) (rNeI X.K C sp E) := by
  rintro pins s σ H x y v u Q I rx ry ⟨a, dx, fs, rfl, ha, hy, q⟩
  cases (show v = Value.ref a from rx)
  obtain ⟨_, _, J⟩ := inst_of I ha
  obtain ⟨m, hF⟩ := I.fr
  obtain ⟨tb, hb, hn⟩ := side_looks (M := model X.prog X.w) hC I ry hy
  show wpAny _ _ (richCompare .NotEq (.ref a) u) _ _ _
  have hu : X.A.units + 1 < cLine := by have := hr.un; omega
  refine ne_K (tb := tb) hu hF I.ok.mod.kin J hb hn hne hs hf hC.cm ?_
  refine wpAny_mono (wpAny_call (SlX.run_at (us := [.ref a, u]) (ws := [.ref a, y]) F hr.in1 I.env0.in1 hx I (.cons rfl (.cons ry .nil)) q)) (fun w s' z => ?_) fun _ _ x => x
  obtain ⟨z', H', I', rz, c, ec, qz⟩ := z
  subst ec
  cases (show w = Value.bool c from rz)
  exact ⟨c, rfl, .bl (!c), H', I', rfl, qz⟩
theorem op_cmpOK {K : PySem.W.Frag} {prog : Program} {w : World} {mg : Str → Option Value} {base : Heap} {op : CmpOp} (hop : ∀ a b, compareOp op a b = richCompare op a b) (hC : IsC K C) (hs : PySem.W.findIn K (.ref C) (cmpInfo op).2.1 = some (some (.ref g))) (hf : PySem.W.isFn K (.ref g) = true)
    (F : FnR prog w K mg base CX n g sp) (hr : Room n X.A) (hx : Passes CX X E) (hK : X.K = K := by rfl) (hP : X.prog = prog := by rfl) (hw : X.w = w := by rfl) (hm : X.mg = mg := by rfl) (hb : X.base = base := by rfl) : OpR X (compareOp op) (rCmpO K C sp E) := by
  subst hK hP hw hm hb
  exact op_cmpO hop hC hs hf F hr hx
theorem op_neIK {K : PySem.W.Frag} {prog : Program} {w : World} {mg : Str → Option Value} {base : Heap} (hC : IsC K C) (hne : PySem.W.findIn K (.ref C) "__ne__" = some (some (.builtin "object.__ne__"))) (hs : PySem.W.findIn K (.ref C) "__eq__" = some (some (.ref g))) (hf : PySem.W.isFn K (.ref g) = true)
    (F : FnR prog w K mg base CX n g sp) (hr : Room (n + 1) X.A) (hx : Passes CX X E) (hK : X.K = K := by rfl) (hP : X.prog = prog := by rfl) (hw : X.w = w := by rfl) (hm : X.mg = mg := by rfl) (hb : X.base = base := by rfl) : OpR X (compareOp .NotEq) (rNeI K C sp E) := by
  subst hK hP hw hm hb
  exact op_neI hC hne hs hf F hr hx
theorem op_repUK {K : PySem.W.Frag} (hK : X.K = K := by rfl) : OpR X (binaryOp .Mult) (rRepU K) := by
  subst hK
  exact op_repU
end
end My

/-! t[::-1], t a tuple -/
namespace My
open PySem PySem.Spec PyProof.Rows L2
section
variable {prog : Program} {w : World} {A : Around} {E : Value → Shared → Prop} {s : Shared}
theorem adjust_rev (n : Nat) : Builtin.Slice.sliceAdjust none none (-1) (n : Int) = ((n : Int) - 1, -1) := by
  unfold Builtin.Slice.sliceAdjust
  simp only [show ((-1 : Int) < 0) from by decide, if_true]
theorem places_rev (n : Nat) : Builtin.Slice.slicePlaces ((n : Int) - 1) (-1) (-1) = n := by
  unfold Builtin.Slice.slicePlaces
  have h1 : ¬ ((-1 : Int) > 0) := by decide
  simp only [h1, if_false]
  by_cases h : (n : Int) - 1 > -1
  · rw [if_pos h, show (-(-1) : Int) = 1 from rfl, Int.ediv_one]
    omega
  · rw [if_neg h]
    omega
theorem applied_rev {sl : Addr} {tk : Tok} {n : Nat} {Q : Int × Int × Nat → Shared → Prop} (hs : s.heap.IsSliceOf sl .none .none (.int (-1) tk))
    (h : Q ((n : Int) - 1, -1, n) s) : wpAny (model prog w) A (Builtin.Slice.sliceApplied (.ref sl) (pure (n : Int))) Q E s := by
  obtain ⟨os, hos, hcs, hds⟩ := id hs
  unfold Builtin.Slice.sliceApplied Builtin.Slice.sliceFields
  refine wpAny_bind (wpAny_bind (wpAny_field hos hds (x := .none) rfl (wpAny_bind (wpAny_field hos hds (x := .none) rfl (wpAny_bind (wpAny_field hos hds (x := .int (-1) tk) rfl (wpAny_pure ?_)))))))
  refine wpAny_bind (slicePart_int ?_)
  show wpAny _ _ (if ((-1 : Int) == 0) = true then _ else _) _ _ s
  rw [if_neg (by decide)]
  refine wpAny_bind (slicePart_none (wpAny_bind (slicePart_none (wpAny_bind (wpAny_pure ?_)))))
  show wpAny _ _ (match Builtin.Slice.sliceAdjust none none (-1) (n : Int) with | (lo, hi) => pure (lo, (-1 : Int), Builtin.Slice.slicePlaces lo hi (-1))) _ _ s
  rw [adjust_rev n]
  show wpAny _ _ (pure ((n : Int) - 1, (-1 : Int), Builtin.Slice.slicePlaces ((n : Int) - 1) (-1) (-1))) _ _ s
  rw [places_rev]
  exact wpAny_pure h
theorem pick_rev (xs : Array Value) : ((List.range xs.size).filterMap fun (m : Nat) => xs[(((xs.size : Int) - 1) + (m : Int) * (-1)).toNat]?).toArray = xs.toList.reverse.toArray := by
  congr 1
  have e : (fun (m : Nat) => xs[(((xs.size : Int) - 1) + (m : Int) * (-1)).toNat]?) = (xs[·]?) ∘ fun m => xs.size - 1 - m := by
    funext m
    show _ = xs[xs.size - 1 - m]?
    rw [show (((xs.size : Int) - 1) + (m : Int) * (-1)).toNat = xs.size - 1 - m by omega]
  rw [e, ← List.filterMap_map, PySem.W.krv_range, List.filterMap_reverse, PySem.W.krv_all]
open PySem.SeqAt in
open PySem.AutoSeq1 (wpAny_loadPart') in
open PySem.MeetsSeq PySem.MeetsSeq2 PySem.MeetsSeq3 in
theorem getItem_tuple_rev {t sl : Addr} {items : Array Value} {tk : Tok} {Q : Value → Shared → Prop} (ht : IsTup s.heap t items) (hs : s.heap.IsSliceOf sl .none .none (.int (-1) tk))
    (h : Q (.ref s.heap.objs.size) { s with heap := s.heap.push { cls := .type "tuple", data := .seq items.toList.reverse.toArray } })
    (hsz : items.size ≤ sizeLine) : wpAny (model prog w) A (getItem (.ref t) (.ref sl)) Q E s := by
  have htake : sizeOk (.seq items.toList.reverse.toArray) := by
    show items.toList.reverse.toArray.size ≤ sizeLine
    rw [List.size_toArray, List.length_reverse, Array.length_toList]
    exact hsz
  obtain ⟨os, hos, hcs, hds⟩ := id hs
  have hTs : s.TypeIs (.ref sl) "slice" := ⟨os, hos, hcs⟩
  unfold getItem
  try with_reducible refine wpAny_holding ?_
  first | refine wpAny_bind (wpAny_pure ?_) | skip
  refine wpAny_bind (wpAny_sequenceKey ht.typeIs (by decide) ?_)
  refine wpAny_bind (wpAny_callSpecial?_slot (name := Str.ofString "__getitem__") ht.typeIs PyProof.Rows.slot_tuple_getitem
    (wpAny_call_entry PyProof.Rows.slot_tuple_getitem ht.typeIs entry_tuple_getitem ?_ (args_tuple_getitem _ _)))
  show wpAny _ _ (Builtin.Tuple.tupleItemsOf (.ref t) >>= _) _ _ s
  refine wpAny_bind (tupleItemsOf_ ht ?_)
  refine wpAny_bind (wpAny_typeOf hTs ?_)
  rw [if_pos (by decide)]
  refine wpAny_bind (applied_rev hs ?_)
  have hno : ¬ ((((items.size : Int) - 1) == 0 && (-1 : Int) == 1 && items.size == items.size) = true) := by
    intro q
    rw [Bool.and_eq_true, Bool.and_eq_true] at q
    exact absurd (eq_of_beq q.1.2) (by decide)
  show wpAny _ _ (if (((items.size : Int) - 1) == 0 && (-1 : Int) == 1 && items.size == items.size) = true then _ else _) _ _ s
  rw [if_neg hno, pick_rev]
  first
    | exact wpAny_bind (m := Builtin.Tuple.tupleExact _) (wpAny_newObj_type (wpAny_pure ⟨_, rfl, wpAny_pure h⟩) htake)
    | exact wpAny_bind (m := Builtin.Tuple.tupleExact _) (wpAny_newObj_type (wpAny_bind (wpAny_pure (wpAny_pure ⟨_, rfl, wpAny_pure h⟩))) htake)
    | exact wpAny_bind (wpAny_bind (m := Builtin.Tuple.tupleExact _) (wpAny_newObj_type (wpAny_pure (wpAny_pure ⟨_, rfl, wpAny_pure h⟩)) htake))
    | exact wpAny_bind (wpAny_bind (m := Builtin.Tuple.tupleExact _) (wpAny_newObj_type (wpAny_pure ⟨_, rfl, wpAny_pure h⟩) htake))
end
/-- t[::-1] -/
def tRevT (K : PySem.W.Frag) (te : TE) : TE := fun σ H Q => te σ H fun x H1 => ∃ a xs, x = .ref a ∧ SqT K H1 a xs ∧ ∀ p, H1 p = none → Q (.ref p) (upd H1 p (.tup xs.reverse))
section
variable {X : Cx} {e : Expr} {te : TE} {pos p1 p2 p3 : Pos} {k1 : Nat}
theorem rel_reverse {xs : List V} {us : List Value} (r : Vals xs us) : Vals xs.reverse us.reverse := by
  induction r with
  | nil => exact .nil
  | cons h t ih =>
    rw [List.reverse_cons, List.reverse_cons]
    exact ih.append (.cons h .nil)
theorem pe_revT (he : PE X e te) : PE X (.Subscript e (.Slice none none (some (.UnaryOp .USub (.Constant (.int 1) k1 p1) p3)) p2) pos) (tRevT X.K te) := by
  refine ⟨fun pins s σ H Q I h => ?_⟩
  refine Subscript_ (thn (he.run pins s σ H _ I h) fun v s1 ⟨x, H1, I1, r1, q1⟩ => ?_)
  obtain ⟨a, xs, rfl, hx, q⟩ := q1
  refine wpAny_Slice ?_
  rw [evalPart_none]
  refine wpAny_pure (wpAny_pure ?_)
  rw [evalPart_some]
  have st : PE X (.UnaryOp .USub (.Constant (.int 1) k1 p1) p3) _ := pe_un un_neg pe_int
  refine thn (st.run pins s1 σ H1 (fun y H' => y = .int (-1) ∧ H' = H1) I1 ⟨1, rfl, rfl, rfl⟩) fun u s2 ⟨y, H2, I2, r2, e1, e2⟩ => ?_
  subst e1 e2
  obtain ⟨tk, rfl⟩ := r2
  have I4 : Inv X pins σ H2 { s2 with heap := s2.heap.push { cls := .type "slice", data := .fields #[.none, .none, .int (-1) tk] } } := I2.kept (t' := s2.toks) fun b ob q => Heap.get?_push_of_some _ q
  cases r1
  obtain ⟨its, r, ht, hz⟩ := I4.tuple hx
  have hlen : its.toArray.size = xs.length := by rw [List.size_toArray]; exact r.length.symm
  show wpAny (model X.prog X.w) X.A (subscriptTail e (.Slice none none (some (.UnaryOp .USub (.Constant (.int 1) k1 p1) p3)) p2) (.ref a) (.ref s2.heap.objs.size)) (EP X pins σ Q) X.xe { s2 with heap := s2.heap.push { cls := .type "slice", data := .fields #[.none, .none, .int (-1) tk] } }
  refine tail_any (ops := [.ref a, .ref s2.heap.objs.size]) ht.typeIs PyProof.Rows.slot_tuple_getitem.lookup ?_ (by with_unfolding_all rfl)
  refine getItem_tuple_rev ht (Heap.IsSliceOf.new ..) ?_ (by rw [hlen]; exact hz)
  refine ⟨.ref _, _, I4.laid (t' := s2.toks) (o := .tup xs.reverse) (fun b ob q => Heap.get?_push_of_some _ q) (Nat.le_refl _) ?_, rfl, q _ (I4.hok.fresh (Nat.le_refl _))⟩
  exact ⟨by rw [List.length_reverse]; exact hz, its.reverse, rel_reverse r, IsTup.new _ _⟩
end
end My

/-! an own class asked for a built-in type -/
namespace My
open PySem PySem.Spec PyProof.Rows L2
theorem kit_ownT {K : PySem.W.Frag} {C : Addr} {T : String} (m : PySem.W.kitMeta T = true) (s : PySem.W.subIn K (.ref C) (.type T) = some false) : PySem.W.kitOne K (.ref C) (.type T) = some false := by
  unfold PySem.W.kitOne PySem.W.kitCls
  rw [if_neg (fun z => by have := beq_iff_eq.mp z; cases this)]
  show (if PySem.W.kitMeta T = true then PySem.W.subIn K (.ref C) (.type T) else none) = some false
  rw [if_pos m]
  exact s
end My

namespace My
open PySem PySem.Spec PyProof.Rows L2
def top (i : Nat) : Stmt := PySem.Challenge.pw_stepsound_k56_steps_all_or_none.main.body.getD i (.Pass ⟨0, 0, 0, 0⟩)
abbrev s_wall : Stmt := top 0
abbrev s_is_integer : Stmt := top 12
abbrev s_is_between : Stmt := top 13
abbrev s_is_pair : Stmt := top 14
abbrev s_is_code : Stmt := top 15
abbrev s_is_place : Stmt := top 16
abbrev s_is_state : Stmt := top 17
abbrev s_need_state : Stmt := top 18
abbrev s_need_row : Stmt := top 19
abbrev s_need_few_states : Stmt := top 20
abbrev s_all_states : Stmt := top 22
abbrev s_rounded : Stmt := top 23
abbrev s_limited : Stmt := top 24
abbrev s_change_at : Stmt := top 25
abbrev s_faded : Stmt := top 26
abbrev s_state_behind : Stmt := top 27
abbrev s_state_behind_row : Stmt := top 28
abbrev s_samples_along : Stmt := top 29
abbrev s_need_coder : Stmt := top 31
abbrev s_first_fault : Stmt := top 32
abbrev s_fault_of_steps : Stmt := top 33
abbrev s_fault_of_moves : Stmt := top 34
abbrev s_is_tuple_of : Stmt := top 35
abbrev s_is_move : Stmt := top 36
abbrev s_is_fade : Stmt := top 37
abbrev s_row_along : Stmt := top 39
abbrev s_row_into : Stmt := top 40
abbrev s_seam_between : Stmt := top 41
abbrev s_states_alike : Stmt := top 42
abbrev s_need_few_codes : Stmt := top 45
abbrev s_need_repeats : Stmt := top 46
abbrev s_edit_of : Stmt := top 49
abbrev s_edited : Stmt := top 50
abbrev s_opposite_of : Stmt := top 51
abbrev s_report_of : Stmt := top 52
abbrev s_many_alike : Stmt := top 53
abbrev s_need_step : Stmt := top 54
abbrev s_can_be_done : Stmt := top 55
abbrev s_law_begun : Stmt := top 59
abbrev s_law_next : Stmt := top 60
abbrev s_law_coder : Stmt := top 61
abbrev s_law_parted : Stmt := top 62
abbrev s_law_limited : Stmt := top 63
abbrev s_law_led : Stmt := top 64
abbrev s_law_walked : Stmt := top 65
abbrev s_law_some_state : Stmt := top 66
abbrev s_law_row : Stmt := top 67
abbrev s_law_fault : Stmt := top 68
abbrev s_law_outcome : Stmt := top 69
abbrev s_law_step : Stmt := top 70
abbrev s_law_done : Stmt := top 71
abbrev s_law_sound : Stmt := top 72
abbrev s_law_report : Stmt := top 73
abbrev s_law_stands : Stmt := top 74
abbrev s_law_odd_step : Stmt := top 75
abbrev s_law_some_steps : Stmt := top 76
abbrev s_law_none_right : Stmt := top 77
abbrev s_law : Stmt := top 78
abbrev s_Clip_init : Stmt := inClass (top 44) 0
abbrev s_Clip_coder : Stmt := inClass (top 44) 1
abbrev s_Clip_codes : Stmt := inClass (top 44) 2
abbrev s_Clip_state : Stmt := inClass (top 44) 3
abbrev s_Clip_heard : Stmt := inClass (top 44) 4
abbrev s_Clip_last : Stmt := inClass (top 44) 5
abbrev s_Clip_stretch : Stmt := inClass (top 44) 6
abbrev s_Clip_copy : Stmt := inClass (top 44) 7
abbrev s_Clip_begins : Stmt := inClass (top 44) 8
abbrev s_Clip_len : Stmt := inClass (top 44) 9
abbrev s_Clip_eq : Stmt := inClass (top 44) 10
abbrev s_Clip_contains : Stmt := inClass (top 44) 11
abbrev s_Clip_add : Stmt := inClass (top 44) 12
abbrev s_Clip_mul : Stmt := inClass (top 44) 13
abbrev s_Clip_rmul : Stmt := inClass (top 44) 14
abbrev s_Clip_iadd : Stmt := inClass (top 44) 15
abbrev s_Desk_init : Stmt := inClass (top 57) 0
abbrev s_Desk_do : Stmt := inClass (top 57) 1
abbrev s_Desk_do_all : Stmt := inClass (top 57) 2
abbrev s_Desk_undo : Stmt := inClass (top 57) 3
abbrev s_Desk_redo : Stmt := inClass (top 57) 4
abbrev s_Desk_clip : Stmt := inClass (top 57) 5
abbrev s_Desk_heard : Stmt := inClass (top 57) 6
abbrev s_Desk_steps : Stmt := inClass (top 57) 7
abbrev s_Desk_tries : Stmt := inClass (top 57) 8
abbrev s_Desk_copy : Stmt := inClass (top 57) 9
abbrev s_Desk_len : Stmt := inClass (top 57) 10
abbrev s_Desk_eq : Stmt := inClass (top 57) 11
abbrev s_Desk_do_each : Stmt := inClass (top 57) 12
abbrev s_Desk_follow : Stmt := inClass (top 57) 13
abbrev si_BadCoder : Stmt := inClass (top 2) 0
theorem sci_BadCoder : FnScope ["self", "part", "number"] ["self", "part", "number"] (defScope si_BadCoder) := ⟨rfl, rfl, rfl, by decide +kernel, rfl, by decide +kernel, by decide +kernel⟩
abbrev si_BadRow : Stmt := inClass (top 3) 0
theorem sci_BadRow : FnScope ["self", "row", "word"] ["self", "row", "word"] (defScope si_BadRow) := ⟨rfl, rfl, rfl, by decide +kernel, rfl, by decide +kernel, by decide +kernel⟩
abbrev si_TooGreat : Stmt := inClass (top 8) 0
theorem sci_TooGreat : FnScope ["self", "most"] ["self", "most"] (defScope si_TooGreat) := ⟨rfl, rfl, rfl, by decide +kernel, rfl, by decide +kernel, by decide +kernel⟩
abbrev si_OutOfPlace : Stmt := inClass (top 6) 0
theorem sci_OutOfPlace : FnScope ["self", "text"] ["self", "text"] (defScope si_OutOfPlace) := ⟨rfl, rfl, rfl, by decide +kernel, rfl, by decide +kernel, by decide +kernel⟩
abbrev si_NoSeam : Stmt := inClass (top 7) 0
theorem sci_NoSeam : FnScope ["self", "text"] ["self", "text"] (defScope si_NoSeam) := ⟨rfl, rfl, rfl, by decide +kernel, rfl, by decide +kernel, by decide +kernel⟩
abbrev si_Nothing : Stmt := inClass (top 9) 0
theorem sci_Nothing : FnScope ["self", "text"] ["self", "text"] (defScope si_Nothing) := ⟨rfl, rfl, rfl, by decide +kernel, rfl, by decide +kernel, by decide +kernel⟩
theorem sc_wall : FnScope ["k"] ["k"] (defScope s_wall) := ⟨rfl, rfl, rfl, by decide +kernel, rfl, by decide +kernel, by decide +kernel⟩
theorem sc_is_integer : FnScope ["thing"] ["thing"] (defScope s_is_integer) := ⟨rfl, rfl, rfl, by decide +kernel, rfl, by decide +kernel, by decide +kernel⟩
theorem sc_is_between : FnScope ["thing", "least", "most"] ["thing", "least", "most"] (defScope s_is_between) := ⟨rfl, rfl, rfl, by decide +kernel, rfl, by decide +kernel, by decide +kernel⟩
theorem sc_is_pair : FnScope ["thing"] ["thing"] (defScope s_is_pair) := ⟨rfl, rfl, rfl, by decide +kernel, rfl, by decide +kernel, by decide +kernel⟩
theorem sc_is_code : FnScope ["coder", "thing"] ["coder", "thing"] (defScope s_is_code) := ⟨rfl, rfl, rfl, by decide +kernel, rfl, by decide +kernel, by decide +kernel⟩
theorem sc_is_place : FnScope ["coder", "thing"] ["coder", "thing"] (defScope s_is_place) := ⟨rfl, rfl, rfl, by decide +kernel, rfl, by decide +kernel, by decide +kernel⟩
theorem sc_is_state : FnScope ["coder", "thing"] ["coder", "thing"] (defScope s_is_state) := ⟨rfl, rfl, rfl, by decide +kernel, rfl, by decide +kernel, by decide +kernel⟩
theorem sc_need_state : FnScope ["coder", "thing"] ["coder", "thing"] (defScope s_need_state) := ⟨rfl, rfl, rfl, by decide +kernel, rfl, by decide +kernel, by decide +kernel⟩
theorem sc_need_row : FnScope ["coder", "thing", "index", "code"] ["coder", "thing"] (defScope s_need_row) := ⟨rfl, rfl, rfl, by decide +kernel, rfl, by decide +kernel, by decide +kernel⟩
theorem sc_need_few_states : FnScope ["coder", "most", "low", "high", "steps"] ["coder", "most"] (defScope s_need_few_states) := ⟨rfl, rfl, rfl, by decide +kernel, rfl, by decide +kernel, by decide +kernel⟩
theorem sc_all_states : FnScope ["coder", "low", "high", "steps", "level", "place"] ["coder"] (defScope s_all_states) := ⟨rfl, rfl, rfl, by decide +kernel, rfl, by decide +kernel, by decide +kernel⟩
theorem sc_rounded : FnScope ["number", "divisor"] ["number", "divisor"] (defScope s_rounded) := ⟨rfl, rfl, rfl, by decide +kernel, rfl, by decide +kernel, by decide +kernel⟩
theorem sc_limited : FnScope ["number", "least", "most"] ["number", "least", "most"] (defScope s_limited) := ⟨rfl, rfl, rfl, by decide +kernel, rfl, by decide +kernel, by decide +kernel⟩
theorem sc_change_at : FnScope ["coder", "code", "place", "share"] ["coder", "code", "place"] (defScope s_change_at) := ⟨rfl, rfl, rfl, by decide +kernel, rfl, by decide +kernel, by decide +kernel⟩
theorem sc_faded : FnScope ["level", "fade"] ["level", "fade"] (defScope s_faded) := ⟨rfl, rfl, rfl, by decide +kernel, rfl, by decide +kernel, by decide +kernel⟩
theorem sc_state_behind : FnScope ["coder", "state", "code", "low", "high", "steps", "moves", "fade", "level", "place", "turn", "moved"] ["coder", "state", "code"] (defScope s_state_behind) := ⟨rfl, rfl, rfl, by decide +kernel, rfl, by decide +kernel, by decide +kernel⟩
theorem sc_state_behind_row : FnScope ["coder", "row", "state", "now", "code"] ["coder", "row", "state"] (defScope s_state_behind_row) := ⟨rfl, rfl, rfl, by decide +kernel, rfl, by decide +kernel, by decide +kernel⟩
theorem sc_samples_along : FnScope ["coder", "row", "state", "samples", "now", "code"] ["coder", "row", "state"] (defScope s_samples_along) := ⟨rfl, rfl, rfl, by decide +kernel, rfl, by decide +kernel, by decide +kernel⟩
theorem sc_need_coder : FnScope ["thing", "fault"] ["thing"] (defScope s_need_coder) := ⟨rfl, rfl, rfl, by decide +kernel, rfl, by decide +kernel, by decide +kernel⟩
theorem sc_first_fault : FnScope ["thing", "low", "high", "steps", "moves", "fade", "fault"] ["thing"] (defScope s_first_fault) := ⟨rfl, rfl, rfl, by decide +kernel, rfl, by decide +kernel, by decide +kernel⟩
theorem sc_fault_of_steps : FnScope ["steps", "index", "step"] ["steps"] (defScope s_fault_of_steps) := ⟨rfl, rfl, rfl, by decide +kernel, rfl, by decide +kernel, by decide +kernel⟩
theorem sc_fault_of_moves : FnScope ["moves", "index", "move"] ["moves"] (defScope s_fault_of_moves) := ⟨rfl, rfl, rfl, by decide +kernel, rfl, by decide +kernel, by decide +kernel⟩
theorem sc_is_tuple_of : FnScope ["thing", "least", "most"] ["thing", "least", "most"] (defScope s_is_tuple_of) := ⟨rfl, rfl, rfl, by decide +kernel, rfl, by decide +kernel, by decide +kernel⟩
theorem sc_is_move : FnScope ["thing"] ["thing"] (defScope s_is_move) := ⟨rfl, rfl, rfl, by decide +kernel, rfl, by decide +kernel, by decide +kernel⟩
theorem sc_is_fade : FnScope ["thing"] ["thing"] (defScope s_is_fade) := ⟨rfl, rfl, rfl, by decide +kernel, rfl, by decide +kernel, by decide +kernel⟩
theorem sc_row_along : FnScope ["leaders", "thing", "row", "now", "code"] ["leaders", "thing"] (defScope s_row_along) := ⟨rfl, rfl, rfl, by decide +kernel, rfl, by decide +kernel, by decide +kernel⟩
theorem sc_row_into : FnScope ["coder", "one", "wanted", "codes", "leaders", "layer", "fresh", "state", "code", "after"] ["coder", "one", "wanted"] (defScope s_row_into) := ⟨rfl, rfl, rfl, by decide +kernel, rfl, by decide +kernel, by decide +kernel⟩
theorem sc_seam_between : FnScope ["coder", "one", "row", "state"] ["coder", "one", "row", "state"] (defScope s_seam_between) := ⟨rfl, rfl, rfl, by decide +kernel, rfl, by decide +kernel, by decide +kernel⟩
theorem sc_states_alike : FnScope ["coder", "row", "state", "first", "samples", "near", "behind", "place", "each"] ["coder", "row", "state"] (defScope s_states_alike) := ⟨rfl, rfl, rfl, by decide +kernel, rfl, by decide +kernel, by decide +kernel⟩
theorem sc_need_few_codes : FnScope ["many"] ["many"] (defScope s_need_few_codes) := ⟨rfl, rfl, rfl, by decide +kernel, rfl, by decide +kernel, by decide +kernel⟩
theorem sc_need_repeats : FnScope ["codes", "times"] ["codes", "times"] (defScope s_need_repeats) := ⟨rfl, rfl, rfl, by decide +kernel, rfl, by decide +kernel, by decide +kernel⟩
theorem sc_edit_of : FnScope ["coder", "codes", "state", "step", "word", "index"] ["coder", "codes", "state", "step"] (defScope s_edit_of) := ⟨rfl, rfl, rfl, by decide +kernel, rfl, by decide +kernel, by decide +kernel⟩
theorem sc_edited : FnScope ["codes", "edit", "index", "old", "new"] ["codes", "edit"] (defScope s_edited) := ⟨rfl, rfl, rfl, by decide +kernel, rfl, by decide +kernel, by decide +kernel⟩
theorem sc_opposite_of : FnScope ["edit", "index", "old", "new", "state", "later"] ["edit"] (defScope s_opposite_of) := ⟨rfl, rfl, rfl, by decide +kernel, rfl, by decide +kernel, by decide +kernel⟩
theorem sc_report_of : FnScope ["before", "after", "most", "first", "end"] ["before", "after"] (defScope s_report_of) := ⟨rfl, rfl, rfl, by decide +kernel, rfl, by decide +kernel, by decide +kernel⟩
theorem sc_many_alike : FnScope ["one", "other", "most", "index"] ["one", "other", "most"] (defScope s_many_alike) := ⟨rfl, rfl, rfl, by decide +kernel, rfl, by decide +kernel, by decide +kernel⟩
theorem sc_need_step : FnScope ["coder", "codes", "thing"] ["coder", "codes", "thing"] (defScope s_need_step) := ⟨rfl, rfl, rfl, by decide +kernel, rfl, by decide +kernel, by decide +kernel⟩
theorem sc_can_be_done : FnScope ["coder", "codes", "step", "word", "many"] ["coder", "codes", "step"] (defScope s_can_be_done) := ⟨rfl, rfl, rfl, by decide +kernel, rfl, by decide +kernel, by decide +kernel⟩
theorem sc_law_begun : FnScope ["script", "cell"] ["script"] (defScope s_law_begun) := ⟨rfl, rfl, rfl, by decide +kernel, rfl, by decide +kernel, by decide +kernel⟩
theorem sc_law_next : FnScope ["m", "many", "rest", "k", "cell", "mixed"] ["m", "many"] (defScope s_law_next) := ⟨rfl, rfl, rfl, by decide +kernel, rfl, by decide +kernel, by decide +kernel⟩
theorem sc_law_coder : FnScope ["m", "wide", "places", "codes", "low", "high", "k", "steps", "moves", "fade"] ["m", "wide", "places", "codes"] (defScope s_law_coder) := ⟨rfl, rfl, rfl, by decide +kernel, rfl, by decide +kernel, by decide +kernel⟩
theorem sc_law_parted : FnScope ["number", "by"] ["number", "by"] (defScope s_law_parted) := ⟨rfl, rfl, rfl, by decide +kernel, rfl, by decide +kernel, by decide +kernel⟩
theorem sc_law_limited : FnScope ["number", "least", "most"] ["number", "least", "most"] (defScope s_law_limited) := ⟨rfl, rfl, rfl, by decide +kernel, rfl, by decide +kernel, by decide +kernel⟩
theorem sc_law_led : FnScope ["coder", "here", "code", "share", "turn", "level"] ["coder", "here", "code"] (defScope s_law_led) := ⟨rfl, rfl, rfl, by decide +kernel, rfl, by decide +kernel, by decide +kernel⟩
theorem sc_law_walked : FnScope ["coder", "here", "row", "found", "code"] ["coder", "here", "row"] (defScope s_law_walked) := ⟨rfl, rfl, rfl, by decide +kernel, rfl, by decide +kernel, by decide +kernel⟩
theorem sc_law_some_state : FnScope ["m", "coder"] ["m", "coder"] (defScope s_law_some_state) := ⟨rfl, rfl, rfl, by decide +kernel, rfl, by decide +kernel, by decide +kernel⟩
theorem sc_law_row : FnScope ["m", "coder", "many", "k"] ["m", "coder", "many"] (defScope s_law_row) := ⟨rfl, rfl, rfl, by decide +kernel, rfl, by decide +kernel, by decide +kernel⟩
theorem sc_law_fault : FnScope ["e", "told"] ["e"] (defScope s_law_fault) := ⟨rfl, rfl, rfl, by decide +kernel, rfl, by decide +kernel, by decide +kernel⟩
theorem sc_law_outcome : FnScope ["deed", "caught", "found", "e"] ["deed"] (defScope s_law_outcome) := ⟨rfl, rfl, rfl, by decide +kernel, rfl, by decide +kernel, by decide +kernel⟩
theorem sc_law_step : FnScope ["m", "coder", "row", "way", "many", "at"] ["m", "coder", "row"] (defScope s_law_step) := ⟨rfl, rfl, rfl, by decide +kernel, rfl, by decide +kernel, by decide +kernel⟩
theorem sc_law_done : FnScope ["pair", "step", "here", "row"] ["pair", "step"] (defScope s_law_done) := ⟨rfl, rfl, rfl, by decide +kernel, rfl, by decide +kernel, by decide +kernel⟩
theorem sc_law_sound : FnScope ["coder", "pair", "spot"] ["coder", "pair"] (defScope s_law_sound) := ⟨rfl, rfl, rfl, by decide +kernel, rfl, by decide +kernel, by decide +kernel⟩
theorem sc_law_report : FnScope ["coder", "pair", "other", "old", "new", "first", "tail", "least"] ["coder", "pair", "other"] (defScope s_law_report) := ⟨rfl, rfl, rfl, by decide +kernel, rfl, by decide +kernel, by decide +kernel⟩
theorem sc_law_stands : FnScope ["desk", "coder", "pair", "steps", "tries", "clip", "told"] ["desk", "coder", "pair", "steps", "tries"] (defScope s_law_stands) := ⟨rfl, rfl, rfl, by decide +kernel, rfl, by decide +kernel, by decide +kernel⟩
theorem sc_law_odd_step : FnScope ["m", "coder", "row", "many", "codes", "some"] ["m", "coder", "row"] (defScope s_law_odd_step) := ⟨rfl, rfl, rfl, by decide +kernel, rfl, by decide +kernel, by decide +kernel⟩
theorem sc_law_some_steps : FnScope ["m", "coder", "pair", "steps", "reports", "pairs", "k", "step"] ["m", "coder", "pair"] (defScope s_law_some_steps) := ⟨rfl, rfl, rfl, by decide +kernel, rfl, by decide +kernel, by decide +kernel⟩
theorem sc_law_none_right : FnScope ["m", "desk", "coder", "pair", "tries", "steps", "reports", "pairs", "at", "kept", "bad", "odd"] ["m", "desk", "coder", "pair", "tries"] (defScope s_law_none_right) := ⟨rfl, rfl, rfl, by decide +kernel, rfl, by decide +kernel, by decide +kernel⟩
theorem sc_law : FnScope ["script", "m", "turn", "coder", "pair", "stand", "tries", "again", "steps", "reports", "pairs", "handed", "told", "desk", "full"] ["script"] (defScope s_law) := ⟨rfl, rfl, rfl, by decide +kernel, rfl, by decide +kernel, by decide +kernel⟩
theorem sc_Clip_init : FnScope ["self", "coder", "codes", "state"] ["self", "coder", "codes", "state"] (defScope s_Clip_init) := ⟨rfl, rfl, rfl, by decide +kernel, rfl, by decide +kernel, by decide +kernel⟩
theorem sc_Clip_coder : FnScope ["self"] ["self"] (defScope s_Clip_coder) := ⟨rfl, rfl, rfl, by decide +kernel, rfl, by decide +kernel, by decide +kernel⟩
theorem sc_Clip_codes : FnScope ["self"] ["self"] (defScope s_Clip_codes) := ⟨rfl, rfl, rfl, by decide +kernel, rfl, by decide +kernel, by decide +kernel⟩
theorem sc_Clip_state : FnScope ["self"] ["self"] (defScope s_Clip_state) := ⟨rfl, rfl, rfl, by decide +kernel, rfl, by decide +kernel, by decide +kernel⟩
theorem sc_Clip_heard : FnScope ["self"] ["self"] (defScope s_Clip_heard) := ⟨rfl, rfl, rfl, by decide +kernel, rfl, by decide +kernel, by decide +kernel⟩
theorem sc_Clip_last : FnScope ["self"] ["self"] (defScope s_Clip_last) := ⟨rfl, rfl, rfl, by decide +kernel, rfl, by decide +kernel, by decide +kernel⟩
theorem sc_Clip_stretch : FnScope ["self", "begin", "end"] ["self", "begin", "end"] (defScope s_Clip_stretch) := ⟨rfl, rfl, rfl, by decide +kernel, rfl, by decide +kernel, by decide +kernel⟩
theorem sc_Clip_copy : FnScope ["self"] ["self"] (defScope s_Clip_copy) := ⟨rfl, rfl, rfl, by decide +kernel, rfl, by decide +kernel, by decide +kernel⟩
theorem sc_Clip_begins : FnScope ["self", "other"] ["self", "other"] (defScope s_Clip_begins) := ⟨rfl, rfl, rfl, by decide +kernel, rfl, by decide +kernel, by decide +kernel⟩
theorem sc_Clip_len : FnScope ["self"] ["self"] (defScope s_Clip_len) := ⟨rfl, rfl, rfl, by decide +kernel, rfl, by decide +kernel, by decide +kernel⟩
theorem sc_Clip_eq : FnScope ["self", "other"] ["self", "other"] (defScope s_Clip_eq) := ⟨rfl, rfl, rfl, by decide +kernel, rfl, by decide +kernel, by decide +kernel⟩
theorem sc_Clip_contains : FnScope ["self", "x"] ["self", "x"] (defScope s_Clip_contains) := ⟨rfl, rfl, rfl, by decide +kernel, rfl, by decide +kernel, by decide +kernel⟩
theorem sc_Clip_add : FnScope ["self", "other", "last", "between", "codes"] ["self", "other"] (defScope s_Clip_add) := ⟨rfl, rfl, rfl, by decide +kernel, rfl, by decide +kernel, by decide +kernel⟩
theorem sc_Clip_mul : FnScope ["self", "other"] ["self", "other"] (defScope s_Clip_mul) := ⟨rfl, rfl, rfl, by decide +kernel, rfl, by decide +kernel, by decide +kernel⟩
theorem sc_Clip_rmul : FnScope ["self", "other"] ["self", "other"] (defScope s_Clip_rmul) := ⟨rfl, rfl, rfl, by decide +kernel, rfl, by decide +kernel, by decide +kernel⟩
theorem sc_Clip_iadd : FnScope ["self", "other"] ["self", "other"] (defScope s_Clip_iadd) := ⟨rfl, rfl, rfl, by decide +kernel, rfl, by decide +kernel, by decide +kernel⟩
theorem sc_Desk_init : FnScope ["self", "clip"] ["self", "clip"] (defScope s_Desk_init) := ⟨rfl, rfl, rfl, by decide +kernel, rfl, by decide +kernel, by decide +kernel⟩
theorem sc_Desk_do : FnScope ["self", "step"] ["self", "step"] (defScope s_Desk_do) := ⟨rfl, rfl, rfl, by decide +kernel, rfl, by decide +kernel, by decide +kernel⟩
theorem sc_Desk_do_all : FnScope ["self", "steps"] ["self", "steps"] (defScope s_Desk_do_all) := ⟨rfl, rfl, rfl, by decide +kernel, rfl, by decide +kernel, by decide +kernel⟩
theorem sc_Desk_undo : FnScope ["self", "step", "edit"] ["self"] (defScope s_Desk_undo) := ⟨rfl, rfl, rfl, by decide +kernel, rfl, by decide +kernel, by decide +kernel⟩
theorem sc_Desk_redo : FnScope ["self", "step", "edit"] ["self"] (defScope s_Desk_redo) := ⟨rfl, rfl, rfl, by decide +kernel, rfl, by decide +kernel, by decide +kernel⟩
theorem sc_Desk_clip : FnScope ["self"] ["self"] (defScope s_Desk_clip) := ⟨rfl, rfl, rfl, by decide +kernel, rfl, by decide +kernel, by decide +kernel⟩
theorem sc_Desk_heard : FnScope ["self"] ["self"] (defScope s_Desk_heard) := ⟨rfl, rfl, rfl, by decide +kernel, rfl, by decide +kernel, by decide +kernel⟩
theorem sc_Desk_steps : FnScope ["self", "step", "_"] ["self"] (defScope s_Desk_steps) := ⟨rfl, rfl, rfl, by decide +kernel, rfl, by decide +kernel, by decide +kernel⟩
theorem sc_Desk_tries : FnScope ["self"] ["self"] (defScope s_Desk_tries) := ⟨rfl, rfl, rfl, by decide +kernel, rfl, by decide +kernel, by decide +kernel⟩
theorem sc_Desk_copy : FnScope ["self", "other"] ["self"] (defScope s_Desk_copy) := ⟨rfl, rfl, rfl, by decide +kernel, rfl, by decide +kernel, by decide +kernel⟩
theorem sc_Desk_len : FnScope ["self"] ["self"] (defScope s_Desk_len) := ⟨rfl, rfl, rfl, by decide +kernel, rfl, by decide +kernel, by decide +kernel⟩
theorem sc_Desk_eq : FnScope ["self", "other", "step", "_"] ["self", "other"] (defScope s_Desk_eq) := ⟨rfl, rfl, rfl, by decide +kernel, rfl, by decide +kernel, by decide +kernel⟩
theorem sc_Desk_do_each : FnScope ["self", "steps", "coder", "codes", "state", "before", "done", "reports", "step", "edit", "after"] ["self", "steps"] (defScope s_Desk_do_each) := ⟨rfl, rfl, rfl, by decide +kernel, rfl, by decide +kernel, by decide +kernel⟩
theorem sc_Desk_follow : FnScope ["self", "edit"] ["self", "edit"] (defScope s_Desk_follow) := ⟨rfl, rfl, rfl, by decide +kernel, rfl, by decide +kernel, by decide +kernel⟩
structure Txt0 (K : PySem.W.Frag) (mg : Str → Option Value) where
  f__wall : Addr
  d__wall : FuncData
  F__wall : Fun K "_wall" "_wall" s_wall f__wall d__wall
  b__wall : Binds K d__wall ["k"] []
  g__wall : mg "_wall" = some (.ref f__wall)
  f_is_integer : Addr
  d_is_integer : FuncData
  F_is_integer : Fun K "is_integer" "is_integer" s_is_integer f_is_integer d_is_integer
  b_is_integer : Binds K d_is_integer ["thing"] []
  g_is_integer : mg "is_integer" = some (.ref f_is_integer)
  f_is_between : Addr
  d_is_between : FuncData
  F_is_between : Fun K "is_between" "is_between" s_is_between f_is_between d_is_between
  b_is_between : Binds K d_is_between ["thing", "least", "most"] []
  g_is_between : mg "is_between" = some (.ref f_is_between)
  f_is_pair : Addr
  d_is_pair : FuncData
  F_is_pair : Fun K "is_pair" "is_pair" s_is_pair f_is_pair d_is_pair
  b_is_pair : Binds K d_is_pair ["thing"] []
  g_is_pair : mg "is_pair" = some (.ref f_is_pair)
  f_is_code : Addr
  d_is_code : FuncData
  F_is_code : Fun K "is_code" "is_code" s_is_code f_is_code d_is_code
  b_is_code : Binds K d_is_code ["coder", "thing"] []
  g_is_code : mg "is_code" = some (.ref f_is_code)
  f_is_place : Addr
  d_is_place : FuncData
  F_is_place : Fun K "is_place" "is_place" s_is_place f_is_place d_is_place
  b_is_place : Binds K d_is_place ["coder", "thing"] []
  g_is_place : mg "is_place" = some (.ref f_is_place)
  f_is_state : Addr
  d_is_state : FuncData
  F_is_state : Fun K "is_state" "is_state" s_is_state f_is_state d_is_state
  b_is_state : Binds K d_is_state ["coder", "thing"] []
  g_is_state : mg "is_state" = some (.ref f_is_state)
  f_need_state : Addr
  d_need_state : FuncData
  F_need_state : Fun K "need_state" "need_state" s_need_state f_need_state d_need_state
  b_need_state : Binds K d_need_state ["coder", "thing"] []
  g_need_state : mg "need_state" = some (.ref f_need_state)
  f_need_row : Addr
  d_need_row : FuncData
  F_need_row : Fun K "need_row" "need_row" s_need_row f_need_row d_need_row
  b_need_row : Binds K d_need_row ["coder", "thing"] []
  g_need_row : mg "need_row" = some (.ref f_need_row)
  f_need_few_states : Addr
  d_need_few_states : FuncData
  F_need_few_states : Fun K "need_few_states" "need_few_states" s_need_few_states f_need_few_states d_need_few_states
  b_need_few_states : Binds K d_need_few_states ["coder", "most"] []
  g_need_few_states : mg "need_few_states" = some (.ref f_need_few_states)
structure Txt1 (K : PySem.W.Frag) (mg : Str → Option Value) extends Txt0 K mg where
  f_all_states : Addr
  d_all_states : FuncData
  F_all_states : Fun K "all_states" "all_states" s_all_states f_all_states d_all_states
  b_all_states : Binds K d_all_states ["coder"] []
  g_all_states : mg "all_states" = some (.ref f_all_states)
  f_rounded : Addr
  d_rounded : FuncData
  F_rounded : Fun K "rounded" "rounded" s_rounded f_rounded d_rounded
  b_rounded : Binds K d_rounded ["number", "divisor"] []
  g_rounded : mg "rounded" = some (.ref f_rounded)
  f_limited : Addr
  d_limited : FuncData
  F_limited : Fun K "limited" "limited" s_limited f_limited d_limited
  b_limited : Binds K d_limited ["number", "least", "most"] []
  g_limited : mg "limited" = some (.ref f_limited)
  f_change_at : Addr
  d_change_at : FuncData
  F_change_at : Fun K "change_at" "change_at" s_change_at f_change_at d_change_at
  b_change_at : Binds K d_change_at ["coder", "code", "place"] []
  g_change_at : mg "change_at" = some (.ref f_change_at)
  f_faded : Addr
  d_faded : FuncData
  F_faded : Fun K "faded" "faded" s_faded f_faded d_faded
  b_faded : Binds K d_faded ["level", "fade"] []
  g_faded : mg "faded" = some (.ref f_faded)
  f_state_behind : Addr
  d_state_behind : FuncData
  F_state_behind : Fun K "state_behind" "state_behind" s_state_behind f_state_behind d_state_behind
  b_state_behind : Binds K d_state_behind ["coder", "state", "code"] []
  g_state_behind : mg "state_behind" = some (.ref f_state_behind)
  f_state_behind_row : Addr
  d_state_behind_row : FuncData
  F_state_behind_row : Fun K "state_behind_row" "state_behind_row" s_state_behind_row f_state_behind_row d_state_behind_row
  b_state_behind_row : Binds K d_state_behind_row ["coder", "row", "state"] []
  g_state_behind_row : mg "state_behind_row" = some (.ref f_state_behind_row)
  f_samples_along : Addr
  d_samples_along : FuncData
  F_samples_along : Fun K "samples_along" "samples_along" s_samples_along f_samples_along d_samples_along
  b_samples_along : Binds K d_samples_along ["coder", "row", "state"] []
  g_samples_along : mg "samples_along" = some (.ref f_samples_along)
  f_need_coder : Addr
  d_need_coder : FuncData
  F_need_coder : Fun K "need_coder" "need_coder" s_need_coder f_need_coder d_need_coder
  b_need_coder : Binds K d_need_coder ["thing"] []
  g_need_coder : mg "need_coder" = some (.ref f_need_coder)
  f__first_fault : Addr
  d__first_fault : FuncData
  F__first_fault : Fun K "_first_fault" "_first_fault" s_first_fault f__first_fault d__first_fault
  b__first_fault : Binds K d__first_fault ["thing"] []
  g__first_fault : mg "_first_fault" = some (.ref f__first_fault)
structure Txt2 (K : PySem.W.Frag) (mg : Str → Option Value) extends Txt1 K mg where
  f__fault_of_steps : Addr
  d__fault_of_steps : FuncData
  F__fault_of_steps : Fun K "_fault_of_steps" "_fault_of_steps" s_fault_of_steps f__fault_of_steps d__fault_of_steps
  b__fault_of_steps : Binds K d__fault_of_steps ["steps"] []
  g__fault_of_steps : mg "_fault_of_steps" = some (.ref f__fault_of_steps)
  f__fault_of_moves : Addr
  d__fault_of_moves : FuncData
  F__fault_of_moves : Fun K "_fault_of_moves" "_fault_of_moves" s_fault_of_moves f__fault_of_moves d__fault_of_moves
  b__fault_of_moves : Binds K d__fault_of_moves ["moves"] []
  g__fault_of_moves : mg "_fault_of_moves" = some (.ref f__fault_of_moves)
  f__is_tuple_of : Addr
  d__is_tuple_of : FuncData
  F__is_tuple_of : Fun K "_is_tuple_of" "_is_tuple_of" s_is_tuple_of f__is_tuple_of d__is_tuple_of
  b__is_tuple_of : Binds K d__is_tuple_of ["thing", "least", "most"] []
  g__is_tuple_of : mg "_is_tuple_of" = some (.ref f__is_tuple_of)
  f__is_move : Addr
  d__is_move : FuncData
  F__is_move : Fun K "_is_move" "_is_move" s_is_move f__is_move d__is_move
  b__is_move : Binds K d__is_move ["thing"] []
  g__is_move : mg "_is_move" = some (.ref f__is_move)
  f__is_fade : Addr
  d__is_fade : FuncData
  F__is_fade : Fun K "_is_fade" "_is_fade" s_is_fade f__is_fade d__is_fade
  b__is_fade : Binds K d__is_fade ["thing"] []
  g__is_fade : mg "_is_fade" = some (.ref f__is_fade)
  f_row_along : Addr
  d_row_along : FuncData
  F_row_along : Fun K "row_along" "row_along" s_row_along f_row_along d_row_along
  b_row_along : Binds K d_row_along ["leaders", "thing"] []
  g_row_along : mg "row_along" = some (.ref f_row_along)
  f_row_into : Addr
  d_row_into : FuncData
  F_row_into : Fun K "row_into" "row_into" s_row_into f_row_into d_row_into
  b_row_into : Binds K d_row_into ["coder", "one", "wanted"] []
  g_row_into : mg "row_into" = some (.ref f_row_into)
  f_seam_between : Addr
  d_seam_between : FuncData
  F_seam_between : Fun K "seam_between" "seam_between" s_seam_between f_seam_between d_seam_between
  b_seam_between : Binds K d_seam_between ["coder", "one", "row", "state"] []
  g_seam_between : mg "seam_between" = some (.ref f_seam_between)
  f__states_alike : Addr
  d__states_alike : FuncData
  F__states_alike : Fun K "_states_alike" "_states_alike" s_states_alike f__states_alike d__states_alike
  b__states_alike : Binds K d__states_alike ["coder", "row", "state"] []
  g__states_alike : mg "_states_alike" = some (.ref f__states_alike)
  f__need_few_codes : Addr
  d__need_few_codes : FuncData
  F__need_few_codes : Fun K "_need_few_codes" "_need_few_codes" s_need_few_codes f__need_few_codes d__need_few_codes
  b__need_few_codes : Binds K d__need_few_codes ["many"] []
  g__need_few_codes : mg "_need_few_codes" = some (.ref f__need_few_codes)
structure Txt3 (K : PySem.W.Frag) (mg : Str → Option Value) extends Txt2 K mg where
  f__need_repeats : Addr
  d__need_repeats : FuncData
  F__need_repeats : Fun K "_need_repeats" "_need_repeats" s_need_repeats f__need_repeats d__need_repeats
  b__need_repeats : Binds K d__need_repeats ["codes", "times"] []
  g__need_repeats : mg "_need_repeats" = some (.ref f__need_repeats)
  f_edit_of : Addr
  d_edit_of : FuncData
  F_edit_of : Fun K "edit_of" "edit_of" s_edit_of f_edit_of d_edit_of
  b_edit_of : Binds K d_edit_of ["coder", "codes", "state", "step"] []
  g_edit_of : mg "edit_of" = some (.ref f_edit_of)
  f_edited : Addr
  d_edited : FuncData
  F_edited : Fun K "edited" "edited" s_edited f_edited d_edited
  b_edited : Binds K d_edited ["codes", "edit"] []
  g_edited : mg "edited" = some (.ref f_edited)
  f_opposite_of : Addr
  d_opposite_of : FuncData
  F_opposite_of : Fun K "opposite_of" "opposite_of" s_opposite_of f_opposite_of d_opposite_of
  b_opposite_of : Binds K d_opposite_of ["edit"] []
  g_opposite_of : mg "opposite_of" = some (.ref f_opposite_of)
  f_report_of : Addr
  d_report_of : FuncData
  F_report_of : Fun K "report_of" "report_of" s_report_of f_report_of d_report_of
  b_report_of : Binds K d_report_of ["before", "after"] []
  g_report_of : mg "report_of" = some (.ref f_report_of)
  f__many_alike : Addr
  d__many_alike : FuncData
  F__many_alike : Fun K "_many_alike" "_many_alike" s_many_alike f__many_alike d__many_alike
  b__many_alike : Binds K d__many_alike ["one", "other", "most"] []
  g__many_alike : mg "_many_alike" = some (.ref f__many_alike)
  f__need_step : Addr
  d__need_step : FuncData
  F__need_step : Fun K "_need_step" "_need_step" s_need_step f__need_step d__need_step
  b__need_step : Binds K d__need_step ["coder", "codes", "thing"] []
  g__need_step : mg "_need_step" = some (.ref f__need_step)
  f__can_be_done : Addr
  d__can_be_done : FuncData
  F__can_be_done : Fun K "_can_be_done" "_can_be_done" s_can_be_done f__can_be_done d__can_be_done
  b__can_be_done : Binds K d__can_be_done ["coder", "codes", "step"] []
  g__can_be_done : mg "_can_be_done" = some (.ref f__can_be_done)
  f__law_begun : Addr
  d__law_begun : FuncData
  F__law_begun : Fun K "_law_begun" "_law_begun" s_law_begun f__law_begun d__law_begun
  b__law_begun : Binds K d__law_begun ["script"] []
  g__law_begun : mg "_law_begun" = some (.ref f__law_begun)
  f__law_next : Addr
  d__law_next : FuncData
  F__law_next : Fun K "_law_next" "_law_next" s_law_next f__law_next d__law_next
  b__law_next : Binds K d__law_next ["m", "many"] []
  g__law_next : mg "_law_next" = some (.ref f__law_next)
structure Txt4 (K : PySem.W.Frag) (mg : Str → Option Value) extends Txt3 K mg where
  f__law_coder : Addr
  d__law_coder : FuncData
  F__law_coder : Fun K "_law_coder" "_law_coder" s_law_coder f__law_coder d__law_coder
  b__law_coder : Binds K d__law_coder ["m", "wide", "places", "codes"] []
  g__law_coder : mg "_law_coder" = some (.ref f__law_coder)
  f__law_parted : Addr
  d__law_parted : FuncData
  F__law_parted : Fun K "_law_parted" "_law_parted" s_law_parted f__law_parted d__law_parted
  b__law_parted : Binds K d__law_parted ["number", "by"] []
  g__law_parted : mg "_law_parted" = some (.ref f__law_parted)
  f__law_limited : Addr
  d__law_limited : FuncData
  F__law_limited : Fun K "_law_limited" "_law_limited" s_law_limited f__law_limited d__law_limited
  b__law_limited : Binds K d__law_limited ["number", "least", "most"] []
  g__law_limited : mg "_law_limited" = some (.ref f__law_limited)
  f__law_led : Addr
  d__law_led : FuncData
  F__law_led : Fun K "_law_led" "_law_led" s_law_led f__law_led d__law_led
  b__law_led : Binds K d__law_led ["coder", "here", "code"] []
  g__law_led : mg "_law_led" = some (.ref f__law_led)
  f__law_walked : Addr
  d__law_walked : FuncData
  F__law_walked : Fun K "_law_walked" "_law_walked" s_law_walked f__law_walked d__law_walked
  b__law_walked : Binds K d__law_walked ["coder", "here", "row"] []
  g__law_walked : mg "_law_walked" = some (.ref f__law_walked)
  f__law_some_state : Addr
  d__law_some_state : FuncData
  F__law_some_state : Fun K "_law_some_state" "_law_some_state" s_law_some_state f__law_some_state d__law_some_state
  b__law_some_state : Binds K d__law_some_state ["m", "coder"] []
  g__law_some_state : mg "_law_some_state" = some (.ref f__law_some_state)
  f__law_row : Addr
  d__law_row : FuncData
  F__law_row : Fun K "_law_row" "_law_row" s_law_row f__law_row d__law_row
  b__law_row : Binds K d__law_row ["m", "coder", "many"] []
  g__law_row : mg "_law_row" = some (.ref f__law_row)
  f__law_fault : Addr
  d__law_fault : FuncData
  F__law_fault : Fun K "_law_fault" "_law_fault" s_law_fault f__law_fault d__law_fault
  b__law_fault : Binds K d__law_fault ["e"] []
  g__law_fault : mg "_law_fault" = some (.ref f__law_fault)
  f__law_outcome : Addr
  d__law_outcome : FuncData
  F__law_outcome : Fun K "_law_outcome" "_law_outcome" s_law_outcome f__law_outcome d__law_outcome
  b__law_outcome : Binds K d__law_outcome ["deed"] []
  g__law_outcome : mg "_law_outcome" = some (.ref f__law_outcome)
  f__law_step : Addr
  d__law_step : FuncData
  F__law_step : Fun K "_law_step" "_law_step" s_law_step f__law_step d__law_step
  b__law_step : Binds K d__law_step ["m", "coder", "row"] []
  g__law_step : mg "_law_step" = some (.ref f__law_step)
structure Txt5 (K : PySem.W.Frag) (mg : Str → Option Value) extends Txt4 K mg where
  f__law_done : Addr
  d__law_done : FuncData
  F__law_done : Fun K "_law_done" "_law_done" s_law_done f__law_done d__law_done
  b__law_done : Binds K d__law_done ["pair", "step"] []
  g__law_done : mg "_law_done" = some (.ref f__law_done)
  f__law_sound : Addr
  d__law_sound : FuncData
  F__law_sound : Fun K "_law_sound" "_law_sound" s_law_sound f__law_sound d__law_sound
  b__law_sound : Binds K d__law_sound ["coder", "pair"] []
  g__law_sound : mg "_law_sound" = some (.ref f__law_sound)
  f__law_report : Addr
  d__law_report : FuncData
  F__law_report : Fun K "_law_report" "_law_report" s_law_report f__law_report d__law_report
  b__law_report : Binds K d__law_report ["coder", "pair", "other"] []
  g__law_report : mg "_law_report" = some (.ref f__law_report)
  f__law_stands : Addr
  d__law_stands : FuncData
  F__law_stands : Fun K "_law_stands" "_law_stands" s_law_stands f__law_stands d__law_stands
  b__law_stands : Binds K d__law_stands ["desk", "coder", "pair", "steps", "tries"] []
  g__law_stands : mg "_law_stands" = some (.ref f__law_stands)
  f__law_odd_step : Addr
  d__law_odd_step : FuncData
  F__law_odd_step : Fun K "_law_odd_step" "_law_odd_step" s_law_odd_step f__law_odd_step d__law_odd_step
  b__law_odd_step : Binds K d__law_odd_step ["m", "coder", "row"] []
  g__law_odd_step : mg "_law_odd_step" = some (.ref f__law_odd_step)
  f__law_some_steps : Addr
  d__law_some_steps : FuncData
  F__law_some_steps : Fun K "_law_some_steps" "_law_some_steps" s_law_some_steps f__law_some_steps d__law_some_steps
  b__law_some_steps : Binds K d__law_some_steps ["m", "coder", "pair"] []
  g__law_some_steps : mg "_law_some_steps" = some (.ref f__law_some_steps)
  f__law_none_right : Addr
  d__law_none_right : FuncData
  F__law_none_right : Fun K "_law_none_right" "_law_none_right" s_law_none_right f__law_none_right d__law_none_right
  b__law_none_right : Binds K d__law_none_right ["m", "desk", "coder", "pair", "tries"] []
  g__law_none_right : mg "_law_none_right" = some (.ref f__law_none_right)
  f_law : Addr
  d_law : FuncData
  F_law : Fun K "law" "law" s_law f_law d_law
  b_law : Binds K d_law ["script"] []
  g_law : mg "law" = some (.ref f_law)
  f_Clip_init : Addr
  d_Clip_init : FuncData
  F_Clip_init : ∃ dv q, FunD K "__init__" "Clip.__init__" (defArgs s_Clip_init) (defBody s_Clip_init) (defScope s_Clip_init) dv [("state", V.ref q)] f_Clip_init d_Clip_init
  k_Clip_init : KBn K d_Clip_init ["self", "coder", "codes", "state"] 3 ["state"] (fun us ws => us ++ ws) (fun vs zs => vs ++ zs)
  q_Clip_init : Addr
  qd_Clip_init : Addr
  qs_Clip_init : ∀ H, SqT K H q_Clip_init [.int 0, .int 0]
  qds_Clip_init : ∀ H, SqT K H qd_Clip_init []
  e_Clip_init : List Value
  ev_Clip_init : Vals [V.ref q_Clip_init] e_Clip_init
  b_Clip_init : Binds K d_Clip_init ["self", "coder", "codes", "state"] e_Clip_init
  eb_Clip_init : List Value
  evb_Clip_init : Vals [V.ref qd_Clip_init, V.ref q_Clip_init] eb_Clip_init
  bb_Clip_init : Binds K d_Clip_init ["self", "coder", "codes", "state"] eb_Clip_init
  f_Clip_coder : Addr
  d_Clip_coder : FuncData
  F_Clip_coder : Fun K "coder" "Clip.coder" s_Clip_coder f_Clip_coder d_Clip_coder
  b_Clip_coder : Binds K d_Clip_coder ["self"] []
structure Txt6 (K : PySem.W.Frag) (mg : Str → Option Value) extends Txt5 K mg where
  f_Clip_codes : Addr
  d_Clip_codes : FuncData
  F_Clip_codes : Fun K "codes" "Clip.codes" s_Clip_codes f_Clip_codes d_Clip_codes
  b_Clip_codes : Binds K d_Clip_codes ["self"] []
  f_Clip_state : Addr
  d_Clip_state : FuncData
  F_Clip_state : Fun K "state" "Clip.state" s_Clip_state f_Clip_state d_Clip_state
  b_Clip_state : Binds K d_Clip_state ["self"] []
  f_Clip_heard : Addr
  d_Clip_heard : FuncData
  F_Clip_heard : Fun K "heard" "Clip.heard" s_Clip_heard f_Clip_heard d_Clip_heard
  b_Clip_heard : Binds K d_Clip_heard ["self"] []
  f_Clip_last : Addr
  d_Clip_last : FuncData
  F_Clip_last : Fun K "last" "Clip.last" s_Clip_last f_Clip_last d_Clip_last
  b_Clip_last : Binds K d_Clip_last ["self"] []
  f_Clip_stretch : Addr
  d_Clip_stretch : FuncData
  F_Clip_stretch : Fun K "stretch" "Clip.stretch" s_Clip_stretch f_Clip_stretch d_Clip_stretch
  b_Clip_stretch : Binds K d_Clip_stretch ["self", "begin", "end"] []
  f_Clip_copy : Addr
  d_Clip_copy : FuncData
  F_Clip_copy : Fun K "copy" "Clip.copy" s_Clip_copy f_Clip_copy d_Clip_copy
  b_Clip_copy : Binds K d_Clip_copy ["self"] []
  f_Clip_begins : Addr
  d_Clip_begins : FuncData
  F_Clip_begins : Fun K "begins" "Clip.begins" s_Clip_begins f_Clip_begins d_Clip_begins
  b_Clip_begins : Binds K d_Clip_begins ["self", "other"] []
  f_Clip_len : Addr
  d_Clip_len : FuncData
  F_Clip_len : Fun K "__len__" "Clip.__len__" s_Clip_len f_Clip_len d_Clip_len
  b_Clip_len : Binds K d_Clip_len ["self"] []
  f_Clip_eq : Addr
  d_Clip_eq : FuncData
  F_Clip_eq : Fun K "__eq__" "Clip.__eq__" s_Clip_eq f_Clip_eq d_Clip_eq
  b_Clip_eq : Binds K d_Clip_eq ["self", "other"] []
  f_Clip_contains : Addr
  d_Clip_contains : FuncData
  F_Clip_contains : Fun K "__contains__" "Clip.__contains__" s_Clip_contains f_Clip_contains d_Clip_contains
  b_Clip_contains : Binds K d_Clip_contains ["self", "x"] []
structure Txt7 (K : PySem.W.Frag) (mg : Str → Option Value) extends Txt6 K mg where
  f_Clip_add : Addr
  d_Clip_add : FuncData
  F_Clip_add : Fun K "__add__" "Clip.__add__" s_Clip_add f_Clip_add d_Clip_add
  b_Clip_add : Binds K d_Clip_add ["self", "other"] []
  f_Clip_mul : Addr
  d_Clip_mul : FuncData
  F_Clip_mul : Fun K "__mul__" "Clip.__mul__" s_Clip_mul f_Clip_mul d_Clip_mul
  b_Clip_mul : Binds K d_Clip_mul ["self", "other"] []
  f_Clip_rmul : Addr
  d_Clip_rmul : FuncData
  F_Clip_rmul : Fun K "__rmul__" "Clip.__rmul__" s_Clip_rmul f_Clip_rmul d_Clip_rmul
  b_Clip_rmul : Binds K d_Clip_rmul ["self", "other"] []
  f_Clip_iadd : Addr
  d_Clip_iadd : FuncData
  F_Clip_iadd : Fun K "__iadd__" "Clip.__iadd__" s_Clip_iadd f_Clip_iadd d_Clip_iadd
  b_Clip_iadd : Binds K d_Clip_iadd ["self", "other"] []
  f_Desk_init : Addr
  d_Desk_init : FuncData
  F_Desk_init : Fun K "__init__" "Desk.__init__" s_Desk_init f_Desk_init d_Desk_init
  b_Desk_init : Binds K d_Desk_init ["self", "clip"] []
  f_Desk_do : Addr
  d_Desk_do : FuncData
  F_Desk_do : Fun K "do" "Desk.do" s_Desk_do f_Desk_do d_Desk_do
  b_Desk_do : Binds K d_Desk_do ["self", "step"] []
  f_Desk_do_all : Addr
  d_Desk_do_all : FuncData
  F_Desk_do_all : Fun K "do_all" "Desk.do_all" s_Desk_do_all f_Desk_do_all d_Desk_do_all
  b_Desk_do_all : Binds K d_Desk_do_all ["self", "steps"] []
  f_Desk_undo : Addr
  d_Desk_undo : FuncData
  F_Desk_undo : Fun K "undo" "Desk.undo" s_Desk_undo f_Desk_undo d_Desk_undo
  b_Desk_undo : Binds K d_Desk_undo ["self"] []
  f_Desk_redo : Addr
  d_Desk_redo : FuncData
  F_Desk_redo : Fun K "redo" "Desk.redo" s_Desk_redo f_Desk_redo d_Desk_redo
  b_Desk_redo : Binds K d_Desk_redo ["self"] []
  f_Desk_clip : Addr
  d_Desk_clip : FuncData
  F_Desk_clip : Fun K "clip" "Desk.clip" s_Desk_clip f_Desk_clip d_Desk_clip
  b_Desk_clip : Binds K d_Desk_clip ["self"] []
structure Txt8 (K : PySem.W.Frag) (mg : Str → Option Value) extends Txt7 K mg where
  f_Desk_heard : Addr
  d_Desk_heard : FuncData
  F_Desk_heard : Fun K "heard" "Desk.heard" s_Desk_heard f_Desk_heard d_Desk_heard
  b_Desk_heard : Binds K d_Desk_heard ["self"] []
  f_Desk_steps : Addr
  d_Desk_steps : FuncData
  F_Desk_steps : Fun K "steps" "Desk.steps" s_Desk_steps f_Desk_steps d_Desk_steps
  b_Desk_steps : Binds K d_Desk_steps ["self"] []
  f_Desk_tries : Addr
  d_Desk_tries : FuncData
  F_Desk_tries : Fun K "tries" "Desk.tries" s_Desk_tries f_Desk_tries d_Desk_tries
  b_Desk_tries : Binds K d_Desk_tries ["self"] []
  f_Desk_copy : Addr
  d_Desk_copy : FuncData
  F_Desk_copy : Fun K "copy" "Desk.copy" s_Desk_copy f_Desk_copy d_Desk_copy
  b_Desk_copy : Binds K d_Desk_copy ["self"] []
  f_Desk_len : Addr
  d_Desk_len : FuncData
  F_Desk_len : Fun K "__len__" "Desk.__len__" s_Desk_len f_Desk_len d_Desk_len
  b_Desk_len : Binds K d_Desk_len ["self"] []
  f_Desk_eq : Addr
  d_Desk_eq : FuncData
  F_Desk_eq : Fun K "__eq__" "Desk.__eq__" s_Desk_eq f_Desk_eq d_Desk_eq
  b_Desk_eq : Binds K d_Desk_eq ["self", "other"] []
  f_Desk_do_each : Addr
  d_Desk_do_each : FuncData
  F_Desk_do_each : Fun K "_do_each" "Desk._do_each" s_Desk_do_each f_Desk_do_each d_Desk_do_each
  b_Desk_do_each : Binds K d_Desk_do_each ["self", "steps"] []
  f_Desk_follow : Addr
  d_Desk_follow : FuncData
  F_Desk_follow : Fun K "_follow" "Desk._follow" s_Desk_follow f_Desk_follow d_Desk_follow
  b_Desk_follow : Binds K d_Desk_follow ["self", "edit"] []
structure Txt (K : PySem.W.Frag) (mg : Str → Option Value) extends Txt8 K mg where
  z_bool : mg "bool" = none
  z_enumerate : mg "enumerate" = none
  z_int : mg "int" = none
  z_isinstance : mg "isinstance" = none
  z_len : mg "len" = none
  z_list : mg "list" = none
  z_max : mg "max" = none
  z_min : mg "min" = none
  z_range : mg "range" = none
  z_repr : mg "repr" = none
  z_str : mg "str" = none
  z_tuple : mg "tuple" = none
  C_Clip : Addr
  g_Clip : mg "Clip" = some (.ref C_Clip)
  cl_Clip : Cls K C_Clip
  mk_Clip : Mk K C_Clip f_Clip_init
  na_Clip__coder : NoAttr K C_Clip "_coder"
  na_Clip__codes : NoAttr K C_Clip "_codes"
  na_Clip__state : NoAttr K C_Clip "_state"
  sf_Clip : PySem.W.selfFirst K C_Clip = true
  is_Clip : IsC K C_Clip
  ne_Clip : PySem.W.findIn K (.ref C_Clip) "__ne__" = some (some (.builtin "object.__ne__"))
  p_Clip_coder : Addr
  po_Clip_coder : PropOf K C_Clip "coder" p_Clip_coder f_Clip_coder
  p_Clip_codes : Addr
  po_Clip_codes : PropOf K C_Clip "codes" p_Clip_codes f_Clip_codes
  p_Clip_state : Addr
  po_Clip_state : PropOf K C_Clip "state" p_Clip_state f_Clip_state
  me_Clip_heard : Meth K C_Clip "heard" f_Clip_heard
  me_Clip_last : Meth K C_Clip "last" f_Clip_last
  me_Clip_stretch : Meth K C_Clip "stretch" f_Clip_stretch
  me_Clip_copy : Meth K C_Clip "copy" f_Clip_copy
  me_Clip_begins : Meth K C_Clip "begins" f_Clip_begins
  at_Clip_len : PySem.W.findIn K (.ref C_Clip) "__len__" = some (some (.ref f_Clip_len))
  fn_Clip_len : PySem.W.isFn K (.ref f_Clip_len) = true
  at_Clip_eq : PySem.W.findIn K (.ref C_Clip) "__eq__" = some (some (.ref f_Clip_eq))
  fn_Clip_eq : PySem.W.isFn K (.ref f_Clip_eq) = true
  at_Clip_contains : PySem.W.findIn K (.ref C_Clip) "__contains__" = some (some (.ref f_Clip_contains))
  fn_Clip_contains : PySem.W.isFn K (.ref f_Clip_contains) = true
  at_Clip_add : PySem.W.findIn K (.ref C_Clip) "__add__" = some (some (.ref f_Clip_add))
  fn_Clip_add : PySem.W.isFn K (.ref f_Clip_add) = true
  at_Clip_mul : PySem.W.findIn K (.ref C_Clip) "__mul__" = some (some (.ref f_Clip_mul))
  fn_Clip_mul : PySem.W.isFn K (.ref f_Clip_mul) = true
  at_Clip_rmul : PySem.W.findIn K (.ref C_Clip) "__rmul__" = some (some (.ref f_Clip_rmul))
  fn_Clip_rmul : PySem.W.isFn K (.ref f_Clip_rmul) = true
  at_Clip_iadd : PySem.W.findIn K (.ref C_Clip) "__iadd__" = some (some (.ref f_Clip_iadd))
  fn_Clip_iadd : PySem.W.isFn K (.ref f_Clip_iadd) = true
  C_Desk : Addr
  g_Desk : mg "Desk" = some (.ref C_Desk)
  cl_Desk : Cls K C_Desk
  mk_Desk : Mk K C_Desk f_Desk_init
  na_Desk__first : NoAttr K C_Desk "_first"
  na_Desk__codes : NoAttr K C_Desk "_codes"
  na_Desk__state : NoAttr K C_Desk "_state"
  na_Desk__done : NoAttr K C_Desk "_done"
  na_Desk__undone : NoAttr K C_Desk "_undone"
  na_Desk__tries : NoAttr K C_Desk "_tries"
  kl_Desk : PySem.W.kitOne K (.ref C_Desk) (.type "list") = some false
  kt_Desk : PySem.W.kitOne K (.ref C_Desk) (.type "tuple") = some false
  is_Desk : IsC K C_Desk
  kd_Desk : PySem.W.kitOne K (.ref C_Desk) (.ref C_Clip) = some false
  ne_cd : C_Clip ≠ C_Desk
  me_Desk_do : Meth K C_Desk "do" f_Desk_do
  me_Desk_do_all : Meth K C_Desk "do_all" f_Desk_do_all
  me_Desk_undo : Meth K C_Desk "undo" f_Desk_undo
  me_Desk_redo : Meth K C_Desk "redo" f_Desk_redo
  me_Desk_clip : Meth K C_Desk "clip" f_Desk_clip
  me_Desk_heard : Meth K C_Desk "heard" f_Desk_heard
  me_Desk_steps : Meth K C_Desk "steps" f_Desk_steps
  me_Desk_tries : Meth K C_Desk "tries" f_Desk_tries
  me_Desk_copy : Meth K C_Desk "copy" f_Desk_copy
  at_Desk_len : PySem.W.findIn K (.ref C_Desk) "__len__" = some (some (.ref f_Desk_len))
  fn_Desk_len : PySem.W.isFn K (.ref f_Desk_len) = true
  at_Desk_eq : PySem.W.findIn K (.ref C_Desk) "__eq__" = some (some (.ref f_Desk_eq))
  fn_Desk_eq : PySem.W.isFn K (.ref f_Desk_eq) = true
  me_Desk_do_each : Meth K C_Desk "_do_each" f_Desk_do_each
  me_Desk_follow : Meth K C_Desk "_follow" f_Desk_follow
  C_BadCoder : Addr
  fi_BadCoder : Addr
  di_BadCoder : FuncData
  g_BadCoder : mg "BadCoder" = some (.ref C_BadCoder)
  o_BadCoder : OexC K C_BadCoder
  i_BadCoder : PySem.W.findIn K (.ref C_BadCoder) "__init__" = some (some (.ref fi_BadCoder))
  t_BadCoder : PySem.W.typeIn K (.ref fi_BadCoder) = some (.type "function")
  x_BadCoder : XfC K C_BadCoder
  X_BadCoder : ExcC K C_BadCoder
  n_BadCoder_part : PySem.W.findIn K (.ref C_BadCoder) "part" = some none
  n_BadCoder_number : PySem.W.findIn K (.ref C_BadCoder) "number" = some none
  Fi_BadCoder : Fun K "__init__" "BadCoder.__init__" si_BadCoder fi_BadCoder di_BadCoder
  bi_BadCoder : Binds K di_BadCoder ["self", "part", "number"] []
  e_BadCoder : PySem.W.exmOne K (.ref C_BadCoder) (.ref C_BadCoder) = some true
  C_BadRow : Addr
  fi_BadRow : Addr
  di_BadRow : FuncData
  g_BadRow : mg "BadRow" = some (.ref C_BadRow)
  o_BadRow : OexC K C_BadRow
  i_BadRow : PySem.W.findIn K (.ref C_BadRow) "__init__" = some (some (.ref fi_BadRow))
  t_BadRow : PySem.W.typeIn K (.ref fi_BadRow) = some (.type "function")
  x_BadRow : XfC K C_BadRow
  X_BadRow : ExcC K C_BadRow
  n_BadRow_row : PySem.W.findIn K (.ref C_BadRow) "row" = some none
  n_BadRow_word : PySem.W.findIn K (.ref C_BadRow) "word" = some none
  Fi_BadRow : Fun K "__init__" "BadRow.__init__" si_BadRow fi_BadRow di_BadRow
  bi_BadRow : Binds K di_BadRow ["self", "row", "word"] []
  e_BadRow : PySem.W.exmOne K (.ref C_BadRow) (.ref C_BadRow) = some true
  C_TooGreat : Addr
  fi_TooGreat : Addr
  di_TooGreat : FuncData
  g_TooGreat : mg "TooGreat" = some (.ref C_TooGreat)
  o_TooGreat : TgC K C_TooGreat
  i_TooGreat : PySem.W.findIn K (.ref C_TooGreat) "__init__" = some (some (.ref fi_TooGreat))
  t_TooGreat : PySem.W.typeIn K (.ref fi_TooGreat) = some (.type "function")
  x_TooGreat : XfC K C_TooGreat
  X_TooGreat : ExcC K C_TooGreat
  n_TooGreat_most : PySem.W.findIn K (.ref C_TooGreat) "most" = some none
  Fi_TooGreat : Fun K "__init__" "TooGreat.__init__" si_TooGreat fi_TooGreat di_TooGreat
  bi_TooGreat : Binds K di_TooGreat ["self", "most"] []
  e_TooGreat : PySem.W.exmOne K (.ref C_TooGreat) (.ref C_TooGreat) = some true
  C_OutOfPlace : Addr
  fi_OutOfPlace : Addr
  di_OutOfPlace : FuncData
  g_OutOfPlace : mg "OutOfPlace" = some (.ref C_OutOfPlace)
  o_OutOfPlace : OexC K C_OutOfPlace
  i_OutOfPlace : PySem.W.findIn K (.ref C_OutOfPlace) "__init__" = some (some (.ref fi_OutOfPlace))
  t_OutOfPlace : PySem.W.typeIn K (.ref fi_OutOfPlace) = some (.type "function")
  x_OutOfPlace : XfC K C_OutOfPlace
  X_OutOfPlace : ExcC K C_OutOfPlace
  Fi_OutOfPlace : Fun K "__init__" "OutOfPlace.__init__" si_OutOfPlace fi_OutOfPlace di_OutOfPlace
  bi_OutOfPlace : Binds K di_OutOfPlace ["self", "text"] []
  e_OutOfPlace : PySem.W.exmOne K (.ref C_OutOfPlace) (.ref C_OutOfPlace) = some true
  C_NoSeam : Addr
  fi_NoSeam : Addr
  di_NoSeam : FuncData
  g_NoSeam : mg "NoSeam" = some (.ref C_NoSeam)
  o_NoSeam : OexC K C_NoSeam
  i_NoSeam : PySem.W.findIn K (.ref C_NoSeam) "__init__" = some (some (.ref fi_NoSeam))
  t_NoSeam : PySem.W.typeIn K (.ref fi_NoSeam) = some (.type "function")
  x_NoSeam : XfC K C_NoSeam
  X_NoSeam : ExcC K C_NoSeam
  Fi_NoSeam : Fun K "__init__" "NoSeam.__init__" si_NoSeam fi_NoSeam di_NoSeam
  bi_NoSeam : Binds K di_NoSeam ["self", "text"] []
  e_NoSeam : PySem.W.exmOne K (.ref C_NoSeam) (.ref C_NoSeam) = some true
  C_Nothing : Addr
  fi_Nothing : Addr
  di_Nothing : FuncData
  g_Nothing : mg "Nothing" = some (.ref C_Nothing)
  o_Nothing : NthC K C_Nothing
  i_Nothing : PySem.W.findIn K (.ref C_Nothing) "__init__" = some (some (.ref fi_Nothing))
  t_Nothing : PySem.W.typeIn K (.ref fi_Nothing) = some (.type "function")
  x_Nothing : XfC K C_Nothing
  X_Nothing : ExcC K C_Nothing
  Fi_Nothing : Fun K "__init__" "Nothing.__init__" si_Nothing fi_Nothing di_Nothing
  bi_Nothing : Binds K di_Nothing ["self", "text"] []
  e_Nothing : PySem.W.exmOne K (.ref C_Nothing) (.ref C_Nothing) = some true
  C_BadPaper : Addr
  g_BadPaper : mg "BadPaper" = some (.ref C_BadPaper)
  C_BadByte : Addr
  g_BadByte : mg "BadByte" = some (.ref C_BadByte)
  e_BadCoder_BadRow : PySem.W.exmOne K (.ref C_BadCoder) (.ref C_BadRow) = some false
  e_BadCoder_TooGreat : PySem.W.exmOne K (.ref C_BadCoder) (.ref C_TooGreat) = some false
  e_BadCoder_OutOfPlace : PySem.W.exmOne K (.ref C_BadCoder) (.ref C_OutOfPlace) = some false
  e_BadCoder_NoSeam : PySem.W.exmOne K (.ref C_BadCoder) (.ref C_NoSeam) = some false
  e_BadCoder_Nothing : PySem.W.exmOne K (.ref C_BadCoder) (.ref C_Nothing) = some false
  em_BadCoder : exmEach K (.ref C_BadCoder) [.ref C_BadCoder, .ref C_BadRow, .ref C_BadPaper, .ref C_BadByte, .ref C_TooGreat, .ref C_OutOfPlace, .ref C_NoSeam, .ref C_Nothing] [true, false, false, false, false, false, false, false]
  ks_BadCoder : kitEach K (.ref C_BadCoder) [.ref C_BadCoder, .ref C_BadRow, .ref C_BadPaper, .ref C_BadByte, .ref C_TooGreat, .ref C_OutOfPlace, .ref C_NoSeam, .ref C_Nothing] [true, false, false, false, false, false, false, false]
  e_BadRow_BadCoder : PySem.W.exmOne K (.ref C_BadRow) (.ref C_BadCoder) = some false
  e_BadRow_TooGreat : PySem.W.exmOne K (.ref C_BadRow) (.ref C_TooGreat) = some false
  e_BadRow_OutOfPlace : PySem.W.exmOne K (.ref C_BadRow) (.ref C_OutOfPlace) = some false
  e_BadRow_NoSeam : PySem.W.exmOne K (.ref C_BadRow) (.ref C_NoSeam) = some false
  e_BadRow_Nothing : PySem.W.exmOne K (.ref C_BadRow) (.ref C_Nothing) = some false
  em_BadRow : exmEach K (.ref C_BadRow) [.ref C_BadCoder, .ref C_BadRow, .ref C_BadPaper, .ref C_BadByte, .ref C_TooGreat, .ref C_OutOfPlace, .ref C_NoSeam, .ref C_Nothing] [false, true, false, false, false, false, false, false]
  ks_BadRow : kitEach K (.ref C_BadRow) [.ref C_BadCoder, .ref C_BadRow, .ref C_BadPaper, .ref C_BadByte, .ref C_TooGreat, .ref C_OutOfPlace, .ref C_NoSeam, .ref C_Nothing] [false, true, false, false, false, false, false, false]
  e_TooGreat_BadCoder : PySem.W.exmOne K (.ref C_TooGreat) (.ref C_BadCoder) = some false
  e_TooGreat_BadRow : PySem.W.exmOne K (.ref C_TooGreat) (.ref C_BadRow) = some false
  e_TooGreat_OutOfPlace : PySem.W.exmOne K (.ref C_TooGreat) (.ref C_OutOfPlace) = some false
  e_TooGreat_NoSeam : PySem.W.exmOne K (.ref C_TooGreat) (.ref C_NoSeam) = some false
  e_TooGreat_Nothing : PySem.W.exmOne K (.ref C_TooGreat) (.ref C_Nothing) = some false
  em_TooGreat : exmEach K (.ref C_TooGreat) [.ref C_BadCoder, .ref C_BadRow, .ref C_BadPaper, .ref C_BadByte, .ref C_TooGreat, .ref C_OutOfPlace, .ref C_NoSeam, .ref C_Nothing] [false, false, false, false, true, false, false, false]
  ks_TooGreat : kitEach K (.ref C_TooGreat) [.ref C_BadCoder, .ref C_BadRow, .ref C_BadPaper, .ref C_BadByte, .ref C_TooGreat, .ref C_OutOfPlace, .ref C_NoSeam, .ref C_Nothing] [false, false, false, false, true, false, false, false]
  e_OutOfPlace_BadCoder : PySem.W.exmOne K (.ref C_OutOfPlace) (.ref C_BadCoder) = some false
  e_OutOfPlace_BadRow : PySem.W.exmOne K (.ref C_OutOfPlace) (.ref C_BadRow) = some false
  e_OutOfPlace_TooGreat : PySem.W.exmOne K (.ref C_OutOfPlace) (.ref C_TooGreat) = some false
  e_OutOfPlace_NoSeam : PySem.W.exmOne K (.ref C_OutOfPlace) (.ref C_NoSeam) = some false
  e_OutOfPlace_Nothing : PySem.W.exmOne K (.ref C_OutOfPlace) (.ref C_Nothing) = some false
  em_OutOfPlace : exmEach K (.ref C_OutOfPlace) [.ref C_BadCoder, .ref C_BadRow, .ref C_BadPaper, .ref C_BadByte, .ref C_TooGreat, .ref C_OutOfPlace, .ref C_NoSeam, .ref C_Nothing] [false, false, false, false, false, true, false, false]
  ks_OutOfPlace : kitEach K (.ref C_OutOfPlace) [.ref C_BadCoder, .ref C_BadRow, .ref C_BadPaper, .ref C_BadByte, .ref C_TooGreat, .ref C_OutOfPlace, .ref C_NoSeam, .ref C_Nothing] [false, false, false, false, false, true, false, false]
  e_NoSeam_BadCoder : PySem.W.exmOne K (.ref C_NoSeam) (.ref C_BadCoder) = some false
  e_NoSeam_BadRow : PySem.W.exmOne K (.ref C_NoSeam) (.ref C_BadRow) = some false
  e_NoSeam_TooGreat : PySem.W.exmOne K (.ref C_NoSeam) (.ref C_TooGreat) = some false
  e_NoSeam_OutOfPlace : PySem.W.exmOne K (.ref C_NoSeam) (.ref C_OutOfPlace) = some false
  e_NoSeam_Nothing : PySem.W.exmOne K (.ref C_NoSeam) (.ref C_Nothing) = some false
  em_NoSeam : exmEach K (.ref C_NoSeam) [.ref C_BadCoder, .ref C_BadRow, .ref C_BadPaper, .ref C_BadByte, .ref C_TooGreat, .ref C_OutOfPlace, .ref C_NoSeam, .ref C_Nothing] [false, false, false, false, false, false, true, false]
  ks_NoSeam : kitEach K (.ref C_NoSeam) [.ref C_BadCoder, .ref C_BadRow, .ref C_BadPaper, .ref C_BadByte, .ref C_TooGreat, .ref C_OutOfPlace, .ref C_NoSeam, .ref C_Nothing] [false, false, false, false, false, false, true, false]
  e_Nothing_BadCoder : PySem.W.exmOne K (.ref C_Nothing) (.ref C_BadCoder) = some false
  e_Nothing_BadRow : PySem.W.exmOne K (.ref C_Nothing) (.ref C_BadRow) = some false
  e_Nothing_TooGreat : PySem.W.exmOne K (.ref C_Nothing) (.ref C_TooGreat) = some false
  e_Nothing_OutOfPlace : PySem.W.exmOne K (.ref C_Nothing) (.ref C_OutOfPlace) = some false
  e_Nothing_NoSeam : PySem.W.exmOne K (.ref C_Nothing) (.ref C_NoSeam) = some false
  em_Nothing : exmEach K (.ref C_Nothing) [.ref C_BadCoder, .ref C_BadRow, .ref C_BadPaper, .ref C_BadByte, .ref C_TooGreat, .ref C_OutOfPlace, .ref C_NoSeam, .ref C_Nothing] [false, false, false, false, false, false, false, true]
  ks_Nothing : kitEach K (.ref C_Nothing) [.ref C_BadCoder, .ref C_BadRow, .ref C_BadPaper, .ref C_BadByte, .ref C_TooGreat, .ref C_OutOfPlace, .ref C_NoSeam, .ref C_Nothing] [false, false, false, false, false, false, false, true]
  c__law_none_right : Addr
  P__law_none_right : Addr
  cd__law_none_right : d__law_none_right.code = .ref c__law_none_right
  c_law : Addr
  P_law : Addr
  cd_law : d_law.code = .ref c_law
  nP__law_none_right_law : P__law_none_right ≠ P_law
  kp_oc : PySem.W.keepIn K (.ref f__law_outcome) = true
  lk_oc : ∃ oc od dV kV doc pm an cdv ct osl, K.lookup f__law_outcome = some ⟨oc, od, .func (PySem.W.fnOf "_law_outcome" "_law_outcome" (defArgs s_law_outcome) (defBody s_law_outcome) (defScope s_law_outcome) dV kV doc pm an cdv ct), osl⟩ ∧ PySem.W.codeIn K cdv "_law_outcome" = true ∧ L2.Binds K (PySem.W.fnOf "_law_outcome" "_law_outcome" (defArgs s_law_outcome) (defBody s_law_outcome) (defScope s_law_outcome) dV kV doc pm an cdv ct) ["deed"] []
  vL : PySem.W.findCls K (.type "LookupError") (.type "type") "__init__" = some (.val (.builtin "LookupError.__init__"))
  zL : mg "LookupError" = none
  vV : PySem.W.findCls K (.type "ValueError") (.type "type") "__init__" = some (.val (.builtin "ValueError.__init__"))
  zV : mg "ValueError" = none
  t_MOST_CODES : Tok
  g_MOST_CODES : mg "MOST_CODES" = some (.int 2000 t_MOST_CODES)
  q_STEPS : Addr
  qs_STEPS : ∀ H, Dp K H (.ref q_STEPS) (.tuple [.tuple [.str "put", .int 3], .tuple [.str "set", .int 3], .tuple [.str "cut", .int 3], .tuple [.str "from", .int 2]])
  g_STEPS : mg "STEPS" = some (.ref q_STEPS)
def TL {K : PySem.W.Frag} {mg : Str → Option Value} (T : Txt K mg) : List (Addr × Str) := [(T.P__law_none_right, "_law_none_right.<locals>.<lambda>"), (T.P_law, "law.<locals>.<lambda>")]
theorem tl_ok {K : PySem.W.Frag} {mg : Str → Option Value} (T : Txt K mg) : ∀ p ∈ TL T, ∀ q ∈ TL T, p.1 = q.1 → p.2 = q.2 := by
  intro p hp q hq e
  unfold TL at hp hq
  simp only [List.mem_cons, List.not_mem_nil, or_false] at hp hq
  rcases hp with rfl | rfl <;> rcases hq with rfl | rfl <;> first | rfl | exact absurd e T.nP__law_none_right_law | exact absurd e.symm T.nP__law_none_right_law

end My

namespace My
open PySem PySem.Spec PyProof.Rows L2
/-! ### things and their kinds -/
def tyN : PyData → String
  | .none => "NoneType"
  | .bool _ => "bool"
  | .int _ => "int"
  | .str _ => "str"
  | .list _ => "list"
  | .tuple _ => "tuple"
  | .dict _ => "dict"
def isT : PyData → Bool
  | .tuple _ => true
  | _ => false
def isI : PyData → Bool
  | .int _ => true
  | .bool _ => true
  | _ => false
def isB : PyData → Bool
  | .bool _ => true
  | _ => false
theorem tyx {K : PySem.W.Frag} {H : Hp} {v : V} {d : PyData} (h : Dp K H v d) : TyX K H v (.type (tyN d)) := by
  cases h with
  | non => exact .base .non
  | bl b => exact .base (.bl b)
  | int i => exact .base (.int i)
  | str x => exact .base (.str x)
  | lst h _ =>
    rcases h with (h | ⟨o, h⟩) | ⟨o, its, n, h, hc, _⟩
    · exact .base (.lst h)
    · exact .base (.frz h)
    · exact .kList h hc
  | tup h _ =>
    rcases h with (h | ⟨o, h⟩) | ⟨o, its, n, h, hc, _⟩
    · exact .base (.tup h)
    · exact .fTuple h
    · exact .kTuple h hc
theorem kitI {K : PySem.W.Frag} : ∀ d : PyData, PySem.W.kitOne K (.type (tyN d)) (.type "int") = some (isI d)
  | .none => kit_ty (a := "NoneType") (b := "int") (r := false) (by decide +kernel)
  | .bool _ => kit_ty (a := "bool") (b := "int") (r := true) (by decide +kernel)
  | .int _ => kit_ty (a := "int") (b := "int") (r := true) (by decide +kernel)
  | .str _ => kit_ty (a := "str") (b := "int") (r := false) (by decide +kernel)
  | .list _ => kit_ty (a := "list") (b := "int") (r := false) (by decide +kernel)
  | .tuple _ => kit_ty (a := "tuple") (b := "int") (r := false) (by decide +kernel)
  | .dict _ => kit_ty (a := "dict") (b := "int") (r := false) (by decide +kernel)
theorem kitBo {K : PySem.W.Frag} : ∀ d : PyData, PySem.W.kitOne K (.type (tyN d)) (.type "bool") = some (isB d)
  | .none => kit_ty (a := "NoneType") (b := "bool") (r := false) (by decide +kernel)
  | .bool _ => kit_ty (a := "bool") (b := "bool") (r := true) (by decide +kernel)
  | .int _ => kit_ty (a := "int") (b := "bool") (r := false) (by decide +kernel)
  | .str _ => kit_ty (a := "str") (b := "bool") (r := false) (by decide +kernel)
  | .list _ => kit_ty (a := "list") (b := "bool") (r := false) (by decide +kernel)
  | .tuple _ => kit_ty (a := "tuple") (b := "bool") (r := false) (by decide +kernel)
  | .dict _ => kit_ty (a := "dict") (b := "bool") (r := false) (by decide +kernel)
theorem kitT {K : PySem.W.Frag} : ∀ d : PyData, PySem.W.kitOne K (.type (tyN d)) (.type "tuple") = some (isT d)
  | .none => kit_ty (a := "NoneType") (b := "tuple") (r := false) (by decide +kernel)
  | .bool _ => kit_ty (a := "bool") (b := "tuple") (r := false) (by decide +kernel)
  | .int _ => kit_ty (a := "int") (b := "tuple") (r := false) (by decide +kernel)
  | .str _ => kit_ty (a := "str") (b := "tuple") (r := false) (by decide +kernel)
  | .list _ => kit_ty (a := "list") (b := "tuple") (r := false) (by decide +kernel)
  | .tuple _ => kit_ty (a := "tuple") (b := "tuple") (r := true) (by decide +kernel)
  | .dict _ => kit_ty (a := "dict") (b := "tuple") (r := false) (by decide +kernel)
def btw (d : PyData) (lo hi : Int) : Bool := match d with
  | .int n => decide (lo ≤ n) && decide (n ≤ hi)
  | _ => false
def pairD : PyData → Bool
  | .tuple ds => decide ((ds.length : Int) = 2)
  | _ => false
theorem dpAll_len {K : PySem.W.Frag} {H : Hp} : ∀ {xs : List V} {ds : List PyData}, DpAll K H xs ds → xs.length = ds.length
  | _, _, .nil => rfl
  | _, _, .cons _ t => congrArg (· + 1) (dpAll_len t)
theorem dpAll_get {K : PySem.W.Frag} {H : Hp} : ∀ {xs : List V} {ds : List PyData} {i : Nat} {x : V}, DpAll K H xs ds → xs[i]? = some x → ∃ d, ds[i]? = some d ∧ Dp K H x d
  | _, _, _, _, .nil, h => by simp at h
  | _, _, 0, _, .cons h t, e => by
    simp at e
    subst e
    exact ⟨_, by simp, h⟩
  | _, _, i + 1, x, .cons h t, e => by
    obtain ⟨d, h1, h2⟩ := dpAll_get (i := i) (x := x) t (by simpa using e)
    exact ⟨d, by simpa using h1, h2⟩
theorem dpAll_get' {K : PySem.W.Frag} {H : Hp} {xs : List V} {ds : List PyData} {i : Nat} {d : PyData} (h : DpAll K H xs ds) (e : ds[i]? = some d) : ∃ x, xs[i]? = some x ∧ Dp K H x d := by
  have hl := dpAll_len h
  have hi := (List.getElem?_eq_some_iff.mp e).1
  obtain ⟨d', h1, h2⟩ := dpAll_get (i := i) (x := xs[i]) h (List.getElem?_eq_getElem (by omega))
  rw [e] at h1
  cases h1
  exact ⟨_, List.getElem?_eq_getElem (by omega), h2⟩
mutual
theorem dp_same {K : PySem.W.Frag} {H H' : Hp} (s : Same H H') : ∀ (d : PyData) (v : V), Dp K H v d → Dp K H' v d
  | .none, _, h => by cases h; exact .non
  | .bool _, _, h => by cases h; exact .bl _
  | .int _, _, h => by cases h; exact .int _
  | .str _, _, h => by cases h; exact .str _
  | .list ds, _, h => by
    cases h with
    | lst a b => exact .lst (s.seq a) (dpAll_same s ds _ b)
  | .tuple ds, _, h => by
    cases h with
    | tup a b => exact .tup (same_tup s a) (dpAll_same s ds _ b)
  | .dict _, _, h => by cases h
theorem dpAll_same {K : PySem.W.Frag} {H H' : Hp} (s : Same H H') : ∀ (ds : List PyData) (vs : List V), DpAll K H vs ds → DpAll K H' vs ds
  | [], _, h => by cases h; exact .nil
  | d :: ds, _, h => by
    cases h with
    | cons a b => exact .cons (dp_same s d _ a) (dpAll_same s ds _ b)
end
theorem dp_tup {K : PySem.W.Frag} {H : Hp} {v : V} {ds : List PyData} (h : Dp K H v (.tuple ds)) : ∃ a xs, v = .ref a ∧ SqT K H a xs ∧ DpAll K H xs ds := by
  cases h with
  | tup a b => exact ⟨_, _, rfl, a, b⟩
/-- hands back the value z, all stands -/
def Pure (K : PySem.W.Frag) (vs : List V) (H : Hp) (Q : VK) (args : List V) (z : V) : Prop := vs = args ∧ ∀ H', Same H H' → Q z H'
section
variable {P : Program} {w : World} {K : PySem.W.Frag} {mg : Str → Option Value} {base : Heap}
def intD (d : PyData) : Bool := isI d && !isB d
def sp_is_integer (K : PySem.W.Frag) : Sp := fun vs H Q _ => ∃ (x : V) (d : PyData), vs = [x] ∧ Dp K H x d ∧ ∀ H', Same H H' → Q (.bl (intD d)) H'
theorem ok_is_integer (T : Txt K mg) : FnOk P w K mg base CX0 1 T.f_is_integer T.d_is_integer ["thing"] (sp_is_integer K) := by
  refine T.F_is_integer.ok sc_is_integer (fun vs H Q E h => ?_) (fun cdv A outer s H vs Q E hr h => ?_)
  · obtain ⟨x, d, rfl, _⟩ := h
    rfl
  · obtain ⟨x, d, rfl, hd, q⟩ := h
    refine ⟨_,
(pss_one (ps_ret (pe_and (pe_callB (call_isi) (by rfl) T.z_isinstance (by decide +kernel) (pa_cons (pv 0) (pa_cons (pe_bltn (v := .ty "int") (by rfl) T.z_int (by decide +kernel) rfl) pa_nil))) (pe_one (pe_not (pe_callB (call_isi) (by rfl) T.z_isinstance (by decide +kernel) (pa_cons (pv 0) (pa_cons (pe_bltn (v := .ty "bool") (by rfl) T.z_bool (by decide +kernel) rfl) pa_nil))))))))
, ?_⟩
    have q' : ∀ b, intD d = b → Q (.bl b) H := fun b e => e ▸ q H (Same.refl H)
    refine ⟨x, rfl, x, .ty "int", _, _, _, rfl, .ty _, tyx hd, kitI d, _, rfl, ?_⟩
    cases h1 : isI d with
    | false => exact iteF (q' _ (by unfold intD; rw [h1]; rfl))
    | true =>
      refine iteT ?_
      refine ⟨_, rfl, _, .ty "bool", _, _, _, rfl, .ty _, tyx hd, kitBo d, _, rfl, ?_⟩
      exact q' _ (by unfold intD; rw [h1]; rfl)
theorem btw_not {d : PyData} (h : intD d = false) (lo hi : Int) : btw d lo hi = false := by
  cases d <;> first | rfl | cases h
theorem intD_int {d : PyData} (h : intD d = true) : ∃ n, d = .int n := by
  cases d <;> first | exact ⟨_, rfl⟩ | cases h
def sp_is_between (K : PySem.W.Frag) : Sp := fun vs H Q _ => ∃ (x : V) (d : PyData) (lo hi : Int), vs = [x, .int lo, .int hi] ∧ Dp K H x d ∧ ∀ H', Same H H' → Q (.bl (btw d lo hi)) H'
theorem ok_is_between (T : Txt K mg) : FnOk P w K mg base CX0 2 T.f_is_between T.d_is_between ["thing", "least", "most"] (sp_is_between K) := by
  refine T.F_is_between.ok sc_is_between (fun vs H Q E h => ?_) (fun cdv A outer s H vs Q E hr h => ?_)
  · obtain ⟨x, d, lo, hi, rfl, _⟩ := h
    rfl
  · obtain ⟨x, d, lo, hi, rfl, hd, q⟩ := h
    refine ⟨_,
(pss_one (ps_ret (pe_and (pe_call (ok_is_integer T) (hr.mono (by decide)) (by rfl) T.g_is_integer T.F_is_integer.kp T.b_is_integer .nil pass0 (pa_cons (pv 0) pa_nil)) (pe_one (pe_chain op_le op_le (pv 1) (pv 0) (pv 2))))))
, ?_⟩
    refine ⟨x, rfl, x, d, rfl, hd, fun H1 s1 => ⟨_, rfl, ?_⟩⟩
    have q' : ∀ b, btw d lo hi = b → Q (.bl b) H1 := fun b e => e ▸ q H1 s1
    cases h1 : intD d with
    | false => exact iteF (q' _ (btw_not h1 lo hi))
    | true =>
      obtain ⟨n, rfl⟩ := intD_int h1
      cases hd
      refine iteT ?_
      refine ⟨_, rfl, _, rfl, lo, n, rfl, rfl, _, rfl, ?_⟩
      refine ite2 (fun e => ?_) (fun e => ?_)
      · refine ⟨_, rfl, n, hi, rfl, rfl, ?_⟩
        exact q' _ (by show (decide (lo ≤ n) && decide (n ≤ hi)) = _; rw [e]; rfl)
      · exact q' _ (by show (decide (lo ≤ n) && decide (n ≤ hi)) = _; rw [Bool.not_eq_true] at e; rw [e]; rfl)
def sp_is_pair (K : PySem.W.Frag) : Sp := fun vs H Q _ => ∃ (x : V) (d : PyData), vs = [x] ∧ Dp K H x d ∧ ∀ H', Same H H' → Q (.bl (pairD d)) H'
theorem ok_is_pair (T : Txt K mg) : FnOk P w K mg base CX0 2 T.f_is_pair T.d_is_pair ["thing"] (sp_is_pair K) := by
  refine T.F_is_pair.ok sc_is_pair (fun vs H Q E h => ?_) (fun cdv A outer s H vs Q E hr h => ?_)
  · obtain ⟨x, d, rfl, _⟩ := h
    rfl
  · obtain ⟨x, d, rfl, hd, q⟩ := h
    refine ⟨_,
(pss_one (ps_ret (pe_and (pe_callB (call_isi) (by rfl) T.z_isinstance (by decide +kernel) (pa_cons (pv 0) (pa_cons (pe_bltn (v := .ty "tuple") (by rfl) T.z_tuple (by decide +kernel) rfl) pa_nil))) (pe_one (pe_cmpR op_eq (pe_callB (call_len_seq) (by rfl) T.z_len (by decide +kernel) (pa_cons (pv 0) pa_nil)) pe_int (nomark _))))))
, ?_⟩
    have q' : ∀ b, pairD d = b → Q (.bl b) H := fun b e => e ▸ q H (Same.refl H)
    refine ⟨x, rfl, x, .ty "tuple", _, _, _, rfl, .ty _, tyx hd, kitT d, _, rfl, ?_⟩
    cases hd with
    | tup h1 h2 =>
      refine iteT ?_
      refine ⟨_, rfl, _, _, rfl, .inr h1, rfl, ?_⟩
      exact q' _ (by show decide _ = decide _; rw [dpAll_len h2]; congr 1; simp)
    | non => exact iteF (q H (Same.refl H))
    | int n => exact iteF (q H (Same.refl H))
    | bl b => exact iteF (q H (Same.refl H))
    | str z => exact iteF (q H (Same.refl H))
    | lst _ _ => exact iteF (q H (Same.refl H))
def tupD (d : PyData) (lo hi : Int) : Bool := match d with
  | .tuple ds => decide (lo ≤ (ds.length : Int)) && decide ((ds.length : Int) ≤ hi)
  | _ => false
def sp_is_tuple_of (K : PySem.W.Frag) : Sp := fun vs H Q _ => ∃ (x : V) (d : PyData) (lo hi : Int), vs = [x, .int lo, .int hi] ∧ Dp K H x d ∧ ∀ H', Same H H' → Q (.bl (tupD d lo hi)) H'
theorem ok_is_tuple_of (T : Txt K mg) : FnOk P w K mg base CX0 2 T.f__is_tuple_of T.d__is_tuple_of ["thing", "least", "most"] (sp_is_tuple_of K) := by
  refine T.F__is_tuple_of.ok sc_is_tuple_of (fun vs H Q E h => ?_) (fun cdv A outer s H vs Q E hr h => ?_)
  · obtain ⟨x, d, lo, hi, rfl, _⟩ := h
    rfl
  · obtain ⟨x, d, lo, hi, rfl, hd, q⟩ := h
    refine ⟨_,
(pss_one (ps_ret (pe_and (pe_callB (call_isi) (by rfl) T.z_isinstance (by decide +kernel) (pa_cons (pv 0) (pa_cons (pe_bltn (v := .ty "tuple") (by rfl) T.z_tuple (by decide +kernel) rfl) pa_nil))) (pe_one (pe_chain op_le op_le (pv 1) (pe_callB (call_len_seq) (by rfl) T.z_len (by decide +kernel) (pa_cons (pv 0) pa_nil)) (pv 2))))))
, ?_⟩
    have q' : ∀ b, tupD d lo hi = b → Q (.bl b) H := fun b e => e ▸ q H (Same.refl H)
    refine ⟨x, rfl, x, .ty "tuple", _, _, _, rfl, .ty _, tyx hd, kitT d, _, rfl, ?_⟩
    cases hd with
    | @tup a xs ds h1 h2 =>
      refine iteT ?_
      refine ⟨_, rfl, _, rfl, _, _, rfl, .inr h1, lo, _, rfl, rfl, _, rfl, ?_⟩
      have hl : xs.length = ds.length := dpAll_len h2
      refine ite2 (fun e => ?_) (fun e => ?_)
      · refine ⟨_, rfl, _, hi, rfl, rfl, ?_⟩
        exact q' _ (by show (decide (lo ≤ (ds.length : Int)) && decide ((ds.length : Int) ≤ hi)) = _; rw [← hl, e]; rfl)
      · exact q' _ (by show (decide (lo ≤ (ds.length : Int)) && decide ((ds.length : Int) ≤ hi)) = _; rw [← hl]; rw [Bool.not_eq_true] at e; rw [e]; rfl)
    | non => exact iteF (q H (Same.refl H))
    | int n => exact iteF (q H (Same.refl H))
    | bl b => exact iteF (q H (Same.refl H))
    | str z => exact iteF (q H (Same.refl H))
    | lst _ _ => exact iteF (q H (Same.refl H))
def moveD : PyData → Bool
  | .tuple [a, b] => btw a (-32) 32 && btw b (-15) 15
  | _ => false
def sp_is_move (K : PySem.W.Frag) : Sp := fun vs H Q _ => ∃ (x : V) (d : PyData), vs = [x] ∧ Dp K H x d ∧ ∀ H', Same H H' → Q (.bl (moveD d)) H'
theorem ok_is_move (T : Txt K mg) : FnOk P w K mg base CX0 3 T.f__is_move T.d__is_move ["thing"] (sp_is_move K) := by
  refine T.F__is_move.ok sc_is_move (fun vs H Q E h => ?_) (fun cdv A outer s H vs Q E hr h => ?_)
  · obtain ⟨x, d, rfl, _⟩ := h
    rfl
  · obtain ⟨x, d, rfl, hd, q⟩ := h
    refine ⟨_,
(pss_one (ps_ret (pe_and (pe_call (ok_is_pair T) (hr.mono (by decide)) (by rfl) T.g_is_pair T.F_is_pair.kp T.b_is_pair .nil pass0 (pa_cons (pv 0) pa_nil)) (pe_and (pe_call (ok_is_between T) (hr.mono (by decide)) (by rfl) T.g_is_between T.F_is_between.kp T.b_is_between .nil pass0 (pa_cons (pe_ix ix_tup (pv 0) pe_int (fun _ _ => rfl)) (pa_cons (pe_un un_neg pe_int) (pa_cons pe_int pa_nil)))) (pe_one (pe_call (ok_is_between T) (hr.mono (by decide)) (by rfl) T.g_is_between T.F_is_between.kp T.b_is_between .nil pass0 (pa_cons (pe_ix ix_tup (pv 0) pe_int (fun _ _ => rfl)) (pa_cons (pe_un un_neg pe_int) (pa_cons pe_int pa_nil)))))))))
, ?_⟩
    have q' : ∀ b H', Same H H' → moveD d = b → Q (.bl b) H' := fun b H' s e => e ▸ q H' s
    refine ⟨x, rfl, x, d, rfl, hd, fun H1 s1 => ⟨_, rfl, ?_⟩⟩
    by_cases hp : pairD d = true
    · rw [hp]
      refine iteT ?_
      obtain ⟨da, db, rfl⟩ : ∃ da db, d = .tuple [da, db] := by
        cases d with
        | tuple ds =>
          match ds, hp with
          | [a, b], _ => exact ⟨a, b, rfl⟩
          | [], hp => cases hp
          | [a], hp => cases hp
          | a :: b :: c :: r, hp =>
            have := of_decide_eq_true (show decide (((a :: b :: c :: r).length : Int) = 2) = true from hp)
            simp at this
            omega
        | _ => cases hp
      obtain ⟨a, xs, rfl, ha, hds⟩ := dp_tup hd
      have ha1 := same_tup s1 ha
      obtain ⟨x0, e0, h0⟩ := dpAll_get' hds (i := 0) rfl
      obtain ⟨x1, e1, h1⟩ := dpAll_get' hds (i := 1) rfl
      refine ⟨_, rfl, a, xs, 0, x0, rfl, rfl, ha1, atI_nat (j := 0) e0, 32, rfl, x0, da, -32, 32, rfl, dp_same s1 _ _ h0, fun H2 s2 => ⟨_, rfl, ?_⟩⟩
      have ha2 := same_tup s2 ha1
      cases hb : btw da (-32) 32 with
      | false =>
        refine iteF ?_
        exact q' _ H2 (s1.trans s2) (by show (btw da (-32) 32 && btw db (-15) 15) = false; rw [hb]; rfl)
      | true =>
        refine iteT ?_
        refine ⟨_, rfl, a, xs, 1, x1, rfl, rfl, ha2, atI_nat (j := 1) e1, 15, rfl, x1, db, -15, 15, rfl, dp_same s2 _ _ (dp_same s1 _ _ h1), fun H3 s3 => ?_⟩
        exact q' _ H3 ((s1.trans s2).trans s3) (by show (btw da (-32) 32 && btw db (-15) 15) = _; rw [hb]; rfl)
    · rw [Bool.not_eq_true] at hp
      rw [hp]
      refine iteF ?_
      have e : moveD d = false := by
        unfold moveD
        split
        · cases hp
        · rfl
      exact q' _ H1 s1 e
def fadeD (d : PyData) : Bool := btw d 0 0 || btw d 2 99
def sp_is_fade (K : PySem.W.Frag) : Sp := fun vs H Q _ => ∃ (x : V) (d : PyData), vs = [x] ∧ Dp K H x d ∧ ∀ H', Same H H' → Q (.bl (fadeD d)) H'
theorem ok_is_fade (T : Txt K mg) : FnOk P w K mg base CX0 3 T.f__is_fade T.d__is_fade ["thing"] (sp_is_fade K) := by
  refine T.F__is_fade.ok sc_is_fade (fun vs H Q E h => ?_) (fun cdv A outer s H vs Q E hr h => ?_)
  · obtain ⟨x, d, rfl, _⟩ := h
    rfl
  · obtain ⟨x, d, rfl, hd, q⟩ := h
    refine ⟨_,
(pss_one (ps_ret (pe_or (pe_call (ok_is_between T) (hr.mono (by decide)) (by rfl) T.g_is_between T.F_is_between.kp T.b_is_between .nil pass0 (pa_cons (pv 0) (pa_cons pe_int (pa_cons pe_int pa_nil)))) (pe_one (pe_call (ok_is_between T) (hr.mono (by decide)) (by rfl) T.g_is_between T.F_is_between.kp T.b_is_between .nil pass0 (pa_cons (pv 0) (pa_cons pe_int (pa_cons pe_int pa_nil))))))))
, ?_⟩
    have q' : ∀ b H', Same H H' → fadeD d = b → Q (.bl b) H' := fun b H' s e => e ▸ q H' s
    refine ⟨x, rfl, x, d, 0, 0, rfl, hd, fun H1 s1 => ⟨_, rfl, ?_⟩⟩
    cases hb : btw d 0 0 with
    | true =>
      refine iteT ?_
      exact q' _ H1 s1 (by unfold fadeD; rw [hb]; rfl)
    | false =>
      refine iteF ?_
      refine ⟨x, rfl, x, d, 2, 99, rfl, dp_same s1 _ _ hd, fun H2 s2 => ?_⟩
      exact q' _ H2 (s1.trans s2) (by unfold fadeD; rw [hb]; rfl)
end
end My

namespace My
open PySem PySem.Spec PyProof.Rows L2
theorem for_enumT {K : PySem.W.Frag} {a : Addr} {xs : List V} {g : TG} {tb : L2.TS} {D : Ends} {σ : L2.St} {H : Hp} (Pv : Nat → L2.St → Hp → Prop) (h0 : Pv 0 σ H)
    (still : ∀ i σ H, i ≤ xs.length → Pv i σ H → SqT K H a xs)
    (turn : ∀ i x σ H T, xs[i]? = some x → Pv i σ H → H T = none → g (.ref T) σ (upd H T (.tup [.int (i : Nat), x])) fun σ2 H2 => tb { D with nx := Pv (i + 1), ct := Pv (i + 1), bk := D.nx } σ2 H2)
    (fin : ∀ σ H, Pv xs.length σ H → D.nx σ H) :
    ∃ W : Nat → Nat → L2.St → Hp → Prop, (∃ m, W 0 m σ H) ∧ ∀ i m σ H, W i m σ H →
      ((Itu K a).stop i H ∧ D.nx σ H) ∨ ((Itu K a).go i H ∧ ∃ N : L2.St → Hp → Prop, (∀ σ' H', N σ' H' → ∃ m', m' < m ∧ W (i + 1) m' σ' H') ∧ ∀ x H', (Itu K a).yld i H x H' → g x σ H' fun σ2 H2 => tb { D with nx := N, ct := N, bk := D.nx } σ2 H2) := by
  refine ⟨fun i m σ H => m + i = xs.length ∧ Pv i σ H, ⟨xs.length, by omega, h0⟩, ?_⟩
  rintro i m σ H ⟨hm, p⟩
  have q := still i σ H (by omega) p
  rcases Nat.lt_or_ge i xs.length with hlt | hge
  · refine Or.inr ⟨⟨xs, xs[i], q, List.getElem?_eq_getElem hlt⟩, Pv (i + 1), fun σ' H' p' => ⟨m - 1, by omega, by omega, p'⟩, ?_⟩
    rintro v H' ⟨T, x, rfl, hT, rfl, hx⟩
    exact turn i x σ H T (hx xs q) p hT
  · have e : i = xs.length := by omega
    exact Or.inl ⟨⟨xs, q, e.symm⟩, fin σ H (e ▸ p)⟩
theorem st_tail {t u : L2.TS} {D : Ends} {σ : L2.St} {H : Hp} (R : L2.St → Hp → Prop) (hR : ∀ σ H, R σ H → u D σ H)
    (h : (∀ σ H, R σ H → u D σ H) → t { D with nx := u D } σ H) : tSeq t u D σ H := h hR
/-- the place of the first thing of which p does not hold -/
def badAt (p : PyData → Bool) : Nat → List PyData → Option Nat
  | _, [] => none
  | i, d :: r => if p d = true then badAt p (i + 1) r else some i
theorem badAt_step {p : PyData → Bool} {ds : List PyData} {i : Nat} {d : PyData} (h : ds[i]? = some d) : badAt p i (ds.drop i) = if p d = true then badAt p (i + 1) (ds.drop (i + 1)) else some i := by
  have hi := (List.getElem?_eq_some_iff.mp h).1
  have e : ds.drop i = d :: ds.drop (i + 1) := by
    rw [List.drop_eq_getElem_cons hi]
    rw [List.getElem?_eq_getElem hi] at h
    rw [Option.some.inj h]
  rw [e]
  rfl
def noOr : Option Nat → PyData
  | none => .none
  | some i => .int i
def faultD (s : Str) : Option Nat → PyData
  | none => .none
  | some i => .tuple [.str s, .int i]
def rowF (s : Str) (lo hi : Int) (p : PyData → Bool) (d : PyData) : PyData := match d with
  | .tuple ds => if tupD (.tuple ds) lo hi = true then faultD s (badAt p 0 ds) else .tuple [.str s, .none]
  | _ => .tuple [.str s, .none]
def stepsF : PyData → PyData := rowF "steps" 1 16 (btw · 1 9999)
def movesF : PyData → PyData := rowF "moves" 2 16 moveD
theorem upd_tup {K : PySem.W.Frag} {H : Hp} {p : Addr} {xs : List V} : SqT K (upd H p (.tup xs)) p xs := .inl (.inl upd_same)
section
variable {P : Program} {w : World} {K : PySem.W.Frag} {mg : Str → Option Value} {base : Heap}
/-- hands back a thing that is f of the argument -/
def spF (K : PySem.W.Frag) (f : PyData → PyData) : Sp := fun vs H Q _ => ∃ (x : V) (d : PyData), vs = [x] ∧ Dp K H x d ∧ ∀ z H', Same H H' → Dp K H' z (f d) → Q z H'
theorem ok_fault_of_steps (T : Txt K mg) : FnOk P w K mg base CX0 3 T.f__fault_of_steps T.d__fault_of_steps ["steps"] (spF K stepsF) := by
  refine T.F__fault_of_steps.ok sc_fault_of_steps (fun vs H Q E h => ?_) (fun cdv A outer s H vs Q E hr h => ?_)
  · obtain ⟨x, d, rfl, _⟩ := h
    rfl
  · obtain ⟨x, d, rfl, hd, q⟩ := h
    have q' : ∀ z H' e, Same H H' → stepsF d = e → Dp K H' z e → Q z H' := fun z H' e s ee hz => q z H' s (ee ▸ hz)
    refine ⟨_,
(pss_cons (ps_if (pt_not (pt_val (pe_call (ok_is_tuple_of T) (hr.mono (by decide)) (by rfl) T.g__is_tuple_of T.F__is_tuple_of.kp T.b__is_tuple_of .nil pass0 (pa_cons (pv 0) (pa_cons pe_int (pa_cons pe_int pa_nil)))))) (pss_one (ps_ret (pe_tup (pa_cons pe_str (pa_cons pe_non pa_nil))))) pss_nil)
      (pss_cons (ps_for PassesOwn.never rfl (My.pi_enumT (by rfl) T.z_enumerate (pa_cons (pv 0) pa_nil)) (pg_tup (by rfl) (pgs_cons (pg_name (i := 1) sc_fault_of_steps.nd rfl (Or.inl rfl)) (pgs_cons (pg_name (i := 2) sc_fault_of_steps.nd rfl (Or.inl rfl)) pgs_nil))) (pss_one (ps_if (pt_not (pt_val (pe_call (ok_is_between T) (hr.mono (by decide)) (by rfl) T.g_is_between T.F_is_between.kp T.b_is_between .nil pass0 (pa_cons (pv 2) (pa_cons pe_int (pa_cons pe_int pa_nil)))))) (pss_one (ps_ret (pe_tup (pa_cons pe_str (pa_cons (pv 1) pa_nil))))) pss_nil)))
      (pss_one (ps_ret pe_non))))
, ?_⟩
    refine ⟨x, rfl, x, d, 1, 16, rfl, hd, fun H1 s1 => ⟨_, rfl, ?_⟩⟩
    cases hb : tupD d 1 16 with
    | false =>
      refine iteT ?_
      refine ⟨by decide, fun p hp => ?_⟩
      refine q' _ _ _ (s1.trans (same_new hp)) ?_ (.tup upd_tup (.cons (.str _) (.cons .non .nil)))
      unfold stepsF rowF
      split
      · rw [hb]; rfl
      · rfl
    | true =>
      refine iteF ?_
      obtain ⟨ds, rfl⟩ : ∃ ds, d = .tuple ds := by
        cases d with
        | tuple ds => exact ⟨ds, rfl⟩
        | _ => cases hb
      obtain ⟨a, xs, rfl, ha, hds⟩ := dp_tup hd
      have hF : stepsF (.tuple ds) = faultD "steps" (badAt (btw · 1 9999) 0 ds) := by
        show (if _ then _ else _) = _
        rw [if_pos hb]
      refine ⟨.ref a, rfl, a, xs, rfl, same_tup s1 ha, ?_⟩
      refine for_enumT (K := K) (a := a) (xs := xs) (fun i σ H' => ∃ y1 y2, σ = [some (.ref a), y1, y2] ∧ Same H H' ∧ badAt (btw · 1 9999) 0 ds = badAt (btw · 1 9999) i (ds.drop i)) ⟨none, none, rfl, s1, rfl⟩ ?_ ?_ ?_
      · rintro i σ H' _ ⟨_, _, _, s2, _⟩
        exact same_tup s2 ha
      · rintro i v σ H' p hi ⟨y1, y2, rfl, s2, hbad⟩ hp
        obtain ⟨dv, hdv, hv⟩ := dpAll_get hds hi
        rw [badAt_step hdv] at hbad
        have s3 := s2.trans (same_new (o := .tup [.int (i : Nat), v]) hp)
        refine ⟨p, _, rfl, upd_tup, rfl, _, _, rfl, _, _, rfl, rfl, ?_⟩
        refine ⟨_, rfl, v, dv, 1, 9999, rfl, dp_same s3 _ _ hv, fun H2 s4 => ⟨_, rfl, ?_⟩⟩
        cases hg : btw dv 1 9999 with
        | true =>
          refine iteF ?_
          rw [hg] at hbad
          exact ⟨_, _, rfl, s3.trans s4, hbad⟩
        | false =>
          refine iteT ?_
          rw [hg] at hbad
          refine ⟨_, rfl, by show 2 ≤ sizeLine; decide, fun p2 hp2 => ?_⟩
          refine q' _ _ _ ((s3.trans s4).trans (same_new hp2)) (hF.trans ?_) (.tup upd_tup (.cons (.str _) (.cons (.int _) .nil)))
          rw [hbad]
          rfl
      · rintro σ H' ⟨y1, y2, rfl, s2, hbad⟩
        refine q' _ _ _ s2 (hF.trans ?_) .non
        rw [hbad, dpAll_len hds, List.drop_length]
        rfl
theorem ok_fault_of_moves (T : Txt K mg) : FnOk P w K mg base CX0 4 T.f__fault_of_moves T.d__fault_of_moves ["moves"] (spF K movesF) := by
  refine T.F__fault_of_moves.ok sc_fault_of_moves (fun vs H Q E h => ?_) (fun cdv A outer s H vs Q E hr h => ?_)
  · obtain ⟨x, d, rfl, _⟩ := h
    rfl
  · obtain ⟨x, d, rfl, hd, q⟩ := h
    have q' : ∀ z H' e, Same H H' → movesF d = e → Dp K H' z e → Q z H' := fun z H' e s ee hz => q z H' s (ee ▸ hz)
    refine ⟨_,
(pss_cons (ps_if (pt_not (pt_val (pe_call (ok_is_tuple_of T) (hr.mono (by decide)) (by rfl) T.g__is_tuple_of T.F__is_tuple_of.kp T.b__is_tuple_of .nil pass0 (pa_cons (pv 0) (pa_cons pe_int (pa_cons pe_int pa_nil)))))) (pss_one (ps_ret (pe_tup (pa_cons pe_str (pa_cons pe_non pa_nil))))) pss_nil)
      (pss_cons (ps_for PassesOwn.never rfl (My.pi_enumT (by rfl) T.z_enumerate (pa_cons (pv 0) pa_nil)) (pg_tup (by rfl) (pgs_cons (pg_name (i := 1) sc_fault_of_moves.nd rfl (Or.inl rfl)) (pgs_cons (pg_name (i := 2) sc_fault_of_moves.nd rfl (Or.inl rfl)) pgs_nil))) (pss_one (ps_if (pt_not (pt_val (pe_call (ok_is_move T) (hr.mono (by decide)) (by rfl) T.g__is_move T.F__is_move.kp T.b__is_move .nil pass0 (pa_cons (pv 2) pa_nil)))) (pss_one (ps_ret (pe_tup (pa_cons pe_str (pa_cons (pv 1) pa_nil))))) pss_nil)))
      (pss_one (ps_ret pe_non))))
, ?_⟩
    refine ⟨x, rfl, x, d, 2, 16, rfl, hd, fun H1 s1 => ⟨_, rfl, ?_⟩⟩
    cases hb : tupD d 2 16 with
    | false =>
      refine iteT ?_
      refine ⟨by decide, fun p hp => ?_⟩
      refine q' _ _ _ (s1.trans (same_new hp)) ?_ (.tup upd_tup (.cons (.str _) (.cons .non .nil)))
      unfold movesF rowF
      split
      · rw [hb]; rfl
      · rfl
    | true =>
      refine iteF ?_
      obtain ⟨ds, rfl⟩ : ∃ ds, d = .tuple ds := by
        cases d with
        | tuple ds => exact ⟨ds, rfl⟩
        | _ => cases hb
      obtain ⟨a, xs, rfl, ha, hds⟩ := dp_tup hd
      have hF : movesF (.tuple ds) = faultD "moves" (badAt moveD 0 ds) := by
        show (if _ then _ else _) = _
        rw [if_pos hb]
      refine ⟨.ref a, rfl, a, xs, rfl, same_tup s1 ha, ?_⟩
      refine for_enumT (K := K) (a := a) (xs := xs) (fun i σ H' => ∃ y1 y2, σ = [some (.ref a), y1, y2] ∧ Same H H' ∧ badAt moveD 0 ds = badAt moveD i (ds.drop i)) ⟨none, none, rfl, s1, rfl⟩ ?_ ?_ ?_
      · rintro i σ H' _ ⟨_, _, _, s2, _⟩
        exact same_tup s2 ha
      · rintro i v σ H' p hi ⟨y1, y2, rfl, s2, hbad⟩ hp
        obtain ⟨dv, hdv, hv⟩ := dpAll_get hds hi
        rw [badAt_step hdv] at hbad
        have s3 := s2.trans (same_new (o := .tup [.int (i : Nat), v]) hp)
        refine ⟨p, _, rfl, upd_tup, rfl, _, _, rfl, _, _, rfl, rfl, ?_⟩
        refine ⟨_, rfl, v, dv, rfl, dp_same s3 _ _ hv, fun H2 s4 => ⟨_, rfl, ?_⟩⟩
        cases hg : moveD dv with
        | true =>
          refine iteF ?_
          rw [hg] at hbad
          exact ⟨_, _, rfl, s3.trans s4, hbad⟩
        | false =>
          refine iteT ?_
          rw [hg] at hbad
          refine ⟨_, rfl, by show 2 ≤ sizeLine; decide, fun p2 hp2 => ?_⟩
          refine q' _ _ _ ((s3.trans s4).trans (same_new hp2)) (hF.trans ?_) (.tup upd_tup (.cons (.str _) (.cons (.int _) .nil)))
          rw [hbad]
          rfl
      · rintro σ H' ⟨y1, y2, rfl, s2, hbad⟩
        refine q' _ _ _ s2 (hF.trans ?_) .non
        rw [hbad, dpAll_len hds, List.drop_length]
        rfl
/-- the five things -/
def codF (low high steps moves fade : PyData) : PyData :=
  if btw low (-32768) 0 = true then
    if btw high 0 32767 = true then
      match stepsF steps with
      | .none => (match movesF moves with
        | .none => if fadeD fade = true then .none else .tuple [.str "fade", .none]
        | e => e)
      | e => e
    else .tuple [.str "high", .none]
  else .tuple [.str "low", .none]
def firstF : PyData → PyData
  | .tuple [low, high, steps, moves, fade] => codF low high steps moves fade
  | _ => .tuple [.str "form", .none]
def isN : PyData → Bool
  | .none => true
  | _ => false
theorem dp_isN {K : PySem.W.Frag} {H : Hp} {z : V} {e : PyData} (h : Dp K H z e) : decide (z = V.non) = isN e := by
  cases h <;> rfl
theorem len5 {ds : List PyData} (h : ds.length = 5) : ∃ a b c d e, ds = [a, b, c, d, e] := by
  match ds, h with
  | [a, b, c, d, e], _ => exact ⟨a, b, c, d, e, rfl⟩
theorem dpAll5 {K : PySem.W.Frag} {H : Hp} {xs : List V} {a b c d e : PyData} (h : DpAll K H xs [a, b, c, d, e]) : ∃ x1 x2 x3 x4 x5, xs = [x1, x2, x3, x4, x5] ∧ Dp K H x1 a ∧ Dp K H x2 b ∧ Dp K H x3 c ∧ Dp K H x4 d ∧ Dp K H x5 e := by
  cases h with
  | cons h1 h => cases h with
    | cons h2 h => cases h with
      | cons h3 h => cases h with
        | cons h4 h => cases h with
          | cons h5 h => cases h with
            | nil => exact ⟨_, _, _, _, _, rfl, h1, h2, h3, h4, h5⟩
theorem ok_first_fault (T : Txt K mg) : FnOk P w K mg base CX0 5 T.f__first_fault T.d__first_fault ["thing"] (spF K firstF) := by
  refine T.F__first_fault.ok sc_first_fault (fun vs H Q E h => ?_) (fun cdv A outer s H vs Q E hr h => ?_)
  · obtain ⟨x, d, rfl, _⟩ := h
    rfl
  · obtain ⟨x, d, rfl, hd, q⟩ := h
    have q' : ∀ z H' e, Same H H' → firstF d = e → Dp K H' z e → Q z H' := fun z H' e s ee hz => q z H' s (ee ▸ hz)
    refine ⟨_,
(pss_cons (ps_if (PW.pt (pw_or (pt_not (pt_val (pe_callB (call_isi) (by rfl) T.z_isinstance (by decide +kernel) (pa_cons (pv 0) (pa_cons (pe_bltn (v := .ty "tuple") (by rfl) T.z_tuple (by decide +kernel) rfl) pa_nil))))) (pw_or1 (pt_cmpR op_ne (pe_callB (call_len_seq) (by rfl) T.z_len (by decide +kernel) (pa_cons (pv 0) pa_nil)) pe_int (nomark _))))) (pss_one (ps_ret (pe_tup (pa_cons pe_str (pa_cons pe_non pa_nil))))) pss_nil)
      (pss_cons (ps_asg (pv 0) (pg_tup (by rfl) (pgs_cons (pg_name (i := 1) sc_first_fault.nd rfl (Or.inl rfl)) (pgs_cons (pg_name (i := 2) sc_first_fault.nd rfl (Or.inl rfl)) (pgs_cons (pg_name (i := 3) sc_first_fault.nd rfl (Or.inl rfl)) (pgs_cons (pg_name (i := 4) sc_first_fault.nd rfl (Or.inl rfl)) (pgs_cons (pg_name (i := 5) sc_first_fault.nd rfl (Or.inl rfl)) pgs_nil)))))))
      (pss_cons (ps_if (pt_not (pt_val (pe_call (ok_is_between T) (hr.mono (by decide)) (by rfl) T.g_is_between T.F_is_between.kp T.b_is_between .nil pass0 (pa_cons (pv 1) (pa_cons (pe_un un_neg pe_int) (pa_cons pe_int pa_nil)))))) (pss_one (ps_ret (pe_tup (pa_cons pe_str (pa_cons pe_non pa_nil))))) pss_nil)
      (pss_cons (ps_if (pt_not (pt_val (pe_call (ok_is_between T) (hr.mono (by decide)) (by rfl) T.g_is_between T.F_is_between.kp T.b_is_between .nil pass0 (pa_cons (pv 2) (pa_cons pe_int (pa_cons pe_int pa_nil)))))) (pss_one (ps_ret (pe_tup (pa_cons pe_str (pa_cons pe_non pa_nil))))) pss_nil)
      (pss_cons (ps_set (i := 6) sc_first_fault.nd rfl (Or.inl rfl) (pe_call (ok_fault_of_steps T) (hr.mono (by decide)) (by rfl) T.g__fault_of_steps T.F__fault_of_steps.kp T.b__fault_of_steps .nil pass0 (pa_cons (pv 3) pa_nil)))
      (pss_cons (ps_if (pt_cmpR op_isN (pv 6) pe_non (nomark _)) (pss_one (ps_set (i := 6) sc_first_fault.nd rfl (Or.inl rfl) (pe_call (ok_fault_of_moves T) (hr.mono (by decide)) (by rfl) T.g__fault_of_moves T.F__fault_of_moves.kp T.b__fault_of_moves .nil pass0 (pa_cons (pv 4) pa_nil)))) pss_nil)
      (pss_cons (ps_if (PW.pt (pw_and (pt_cmpR op_isN (pv 6) pe_non (nomark _)) (pw_and1 (pt_not (pt_val (pe_call (ok_is_fade T) (hr.mono (by decide)) (by rfl) T.g__is_fade T.F__is_fade.kp T.b__is_fade .nil pass0 (pa_cons (pv 5) pa_nil))))))) (pss_one (ps_set (i := 6) sc_first_fault.nd rfl (Or.inl rfl) (pe_tup (pa_cons pe_str (pa_cons pe_non pa_nil))))) pss_nil)
      (pss_one (ps_ret (pv 6))))))))))
, ?_⟩
    refine ⟨x, rfl, x, .ty "tuple", _, _, _, rfl, .ty _, tyx hd, kitT d, _, rfl, ?_⟩
    -- no tuple of five things
    have bad : (∀ a b c e f, d ≠ .tuple [a, b, c, e, f]) → ∀ H1, Same H H1 → ([V.str "form", V.non].length ≤ sizeLine ∧ ∀ p, H1 p = none → Q (.ref p) (upd H1 p (.tup [V.str "form", V.non]))) := fun nd H1 s1 => by
      refine ⟨by decide, fun p hp => q' _ _ _ (s1.trans (same_new hp)) ?_ (.tup upd_tup (.cons (.str _) (.cons .non .nil)))⟩
      unfold firstF
      split
      · exact absurd rfl (nd _ _ _ _ _)
      · rfl
    cases hT : isT d with
    | false =>
      refine iteT ?_
      exact bad (fun a b c e f z => by rw [z] at hT; cases hT) H (Same.refl H)
    | true =>
      refine iteF ?_
      obtain ⟨ds, rfl⟩ : ∃ ds, d = .tuple ds := by
        cases d with
        | tuple ds => exact ⟨ds, rfl⟩
        | _ => cases hT
      obtain ⟨a, xs, rfl, ha, hds⟩ := dp_tup hd
      refine ⟨_, rfl, a, xs, rfl, .inr ha, rfl, _, rfl, ?_⟩
      have hl := dpAll_len hds
      by_cases h5 : ds.length = 5
      · have e5 : decide (V.int (xs.length : Int) = V.int 5) = true := by rw [hl, h5]; rfl
        rw [e5]
        refine iteF ?_
        obtain ⟨low, high, steps, moves, fade, rfl⟩ := len5 h5
        obtain ⟨x1, x2, x3, x4, x5, rfl, d1, d2, d3, d4, d5⟩ := dpAll5 hds
        have hF : firstF (.tuple [low, high, steps, moves, fade]) = codF low high steps moves fade := rfl
        rw [hF] at q'
        refine ⟨_, rfl, a, _, rfl, ha, rfl, _, _, rfl, _, _, rfl, _, _, rfl, _, _, rfl, _, _, rfl, rfl, ?_⟩
        refine ⟨_, rfl, 32768, rfl, x1, low, -32768, 0, rfl, d1, fun H1 s1 => ⟨_, rfl, ?_⟩⟩
        cases b1 : btw low (-32768) 0 with
        | false =>
          refine iteT ?_
          refine ⟨by decide, fun p hp => q' _ _ _ (s1.trans (same_new hp)) ?_ (.tup upd_tup (.cons (.str "low") (.cons .non .nil)))⟩
          unfold codF
          rw [b1]
          rfl
        | true =>
        refine iteF ?_
        refine ⟨_, rfl, x2, high, 0, 32767, rfl, dp_same s1 _ _ d2, fun H2 s2 => ⟨_, rfl, ?_⟩⟩
        have s12 := s1.trans s2
        cases b2 : btw high 0 32767 with
        | false =>
          refine iteT ?_
          refine ⟨by decide, fun p hp => q' _ _ _ (s12.trans (same_new hp)) ?_ (.tup upd_tup (.cons (.str "high") (.cons .non .nil)))⟩
          unfold codF
          rw [b1, b2]
          rfl
        | true =>
        refine iteF ?_
        refine ⟨_, rfl, x3, steps, rfl, dp_same s12 _ _ d3, fun z1 H3 s3 hz1 => ?_⟩
        have s13 := s12.trans s3
        dsimp only
        refine st_tail (fun σ H' => ∃ (z : V) (e : PyData), σ = [some (.ref a), some x1, some x2, some x3, some x4, some x5, some z] ∧ Same H H' ∧ Dp K H' z e ∧
          codF low high steps moves fade = (if isN e = true then (if fadeD fade = true then .none else .tuple [.str "fade", .none]) else e)) ?_ fun tail => ?_
        · rintro σ H4 ⟨z, e, rfl, s4, hz, he⟩
          refine ⟨_, rfl, rfl, _, rfl, ?_⟩
          show if decide (z = V.non) = true then _ else _
          rw [dp_isN hz]
          cases hn : isN e with
          | false =>
            refine iteF ?_
            refine iteF ?_
            refine ⟨_, rfl, q' _ _ _ s4 ?_ hz⟩
            rw [he, hn]
            rfl
          | true =>
            refine iteT ?_
            refine ⟨_, rfl, x5, fade, rfl, dp_same s4 _ _ d5, fun H5 s5 => ⟨_, rfl, ?_⟩⟩
            cases hf : fadeD fade with
            | true =>
              refine iteF ?_
              have en : e = .none := by
                cases e with
                | none => rfl
                | _ => cases hn
              refine ⟨_, rfl, q' _ _ _ (s4.trans s5) ?_ (dp_same s5 _ _ hz)⟩
              rw [he, hn, hf, en]
              rfl
            | false =>
              refine iteT ?_
              refine ⟨by decide, fun p hp => ⟨_, rfl, q' _ _ _ ((s4.trans s5).trans (same_new hp)) ?_ (.tup upd_tup (.cons (.str "fade") (.cons .non .nil)))⟩⟩
              rw [he, hn, hf]
              rfl
        refine ⟨_, rfl, rfl, _, rfl, ?_⟩
        show if decide (z1 = V.non) = true then _ else _
        rw [dp_isN hz1]
        have hC : codF low high steps moves fade = (match stepsF steps with
          | .none => (match movesF moves with
            | .none => if fadeD fade = true then .none else .tuple [.str "fade", .none]
            | e => e)
          | e => e) := by
          unfold codF
          rw [b1, b2]
          rfl
        cases hn : isN (stepsF steps) with
        | false =>
          refine iteF ?_
          refine tail _ _ ⟨z1, stepsF steps, rfl, s13, hz1, ?_⟩
          rw [hC, hn]
          cases e : stepsF steps with
          | none => rw [e] at hn; cases hn
          | _ => rfl
        | true =>
          refine iteT ?_
          refine ⟨_, rfl, x4, moves, rfl, dp_same s13 _ _ d4, fun z2 H4 s4 hz2 => ?_⟩
          refine tail _ _ ⟨z2, movesF moves, rfl, s13.trans s4, hz2, ?_⟩
          rw [hC]
          have en : stepsF steps = .none := by
            cases e : stepsF steps with
            | none => rfl
            | _ => rw [e] at hn; cases hn
          rw [en]
          cases movesF moves <;> rfl
      · have e5 : decide (V.int (xs.length : Int) = V.int 5) = false := by
          rw [hl]
          refine decide_eq_false fun z => h5 ?_
          have := V.int.inj z
          omega
        rw [e5]
        refine iteT ?_
        exact bad (fun a b c e f z => by cases z; exact h5 rfl) H (Same.refl H)
end
end My

/-! the program's own errors: made, raised, caught, told -/
namespace My
open PySem PySem.Spec PyProof.Rows L2
theorem made1 {H : Hp} {a d : Addr} {o1 o2 o3 o5 : HO} (h : H a = none) (n : d ≠ a) : upd (del (upd (upd (upd H a o1) d o2) a o3) a) d o5 = upd H d o5 := by
  funext b
  show (if b = d then some o5 else if b = a then none else if b = a then some o3 else if b = d then some o2 else if b = a then some o1 else H b) = if b = d then some o5 else H b
  by_cases e : b = d
  · rw [if_pos e, if_pos e]
  · simp only [if_neg e]
    by_cases e2 : b = a
    · simp only [if_pos e2]
      rw [e2, h]
    · simp only [if_neg e2]
theorem made2 {H : Hp} {a d : Addr} {o1 o2 o3 o4 o5 : HO} (h : H a = none) (n : d ≠ a) : upd (del (upd (upd (upd (upd H a o1) d o2) a o3) d o4) a) d o5 = upd H d o5 := by
  funext b
  show (if b = d then some o5 else if b = a then none else if b = d then some o4 else if b = a then some o3 else if b = d then some o2 else if b = a then some o1 else H b) = if b = d then some o5 else H b
  by_cases e : b = d
  · rw [if_pos e, if_pos e]
  · rw [if_neg e, if_neg e]
    by_cases e2 : b = a
    · rw [if_pos e2, e2, h, if_neg (fun z => e (e2.trans z))]
    · rw [if_neg e2, if_neg e, if_neg e2, if_neg e, if_neg e2]
/-- refusals: without fields; with one; with two -/
def NilE (C : Addr) (H : Hp) (E : XK) : Prop := ∀ H', Same H H' → E (.ref C) none H'
theorem NilE.same {C : Addr} {H H' : Hp} {E : XK} (s : Same H H') (h : NilE C H E) : NilE C H' E := fun H'' s' => h H'' (s.trans s')
def OneE (C : Addr) (f : Str) (H : Hp) (E : XK) (x : V) : Prop := ∀ d H', Same H H' → H' d = some (.xd [(f, x)]) → E (.ref C) (some d) H'
theorem OneE.same {C : Addr} {f : Str} {H H' : Hp} {E : XK} {x : V} (s : Same H H') (h : OneE C f H E x) : OneE C f H' E x := fun d H'' s' hd => h d H'' (s.trans s') hd
theorem oneE_mk {C : Addr} {f : Str} {H : Hp} {E : XK} {x : V} (h : OneE C f H E x) {a d : Addr} {o1 o2 o3 : HO} (ha : H a = none) (hd : upd H a o1 d = none) (n : d ≠ a) :
    E (.ref C) (some d) (upd (del (upd (upd (upd H a o1) d o2) a o3) a) d (.xd [(f, x)])) := by
  rw [made1 ha n]
  have h0 : H d = none := (upd_ne n).symm.trans hd
  exact h d _ (same_new h0) upd_same
def TwoE (C : Addr) (f g : Str) (H : Hp) (E : XK) (x y : V) : Prop := ∀ d H', Same H H' → H' d = some (.xd [(g, y), (f, x)]) → E (.ref C) (some d) H'
theorem TwoE.same {C : Addr} {f g : Str} {H H' : Hp} {E : XK} {x y : V} (s : Same H H') (h : TwoE C f g H E x y) : TwoE C f g H' E x y := fun d H'' s' hd => h d H'' (s.trans s') hd
theorem twoE_mk {C : Addr} {f g : Str} {H : Hp} {E : XK} {x y : V} (h : TwoE C f g H E x y) {a d : Addr} {o1 o2 o3 o4 : HO} (ha : H a = none) (hd : upd H a o1 d = none) (n : d ≠ a) :
    E (.ref C) (some d) (upd (del (upd (upd (upd (upd H a o1) d o2) a o3) d o4) a) d (.xd [(g, y), (f, x)])) := by
  rw [made2 ha n]
  have h0 : H d = none := (upd_ne n).symm.trans hd
  exact h d _ (same_new h0) upd_same
def sp_init0 (K : PySem.W.Frag) (C : Addr) : Sp := fun vs H Q _ => ∃ (a : Addr) (t : Str), vs = [.ref a, .str t] ∧ H a = some (exo a C none) ∧ Q .non H
def sp_init1 (C : Addr) (f : Str) : Sp := fun vs H Q _ => ∃ (a : Addr) (x : V), vs = [.ref a, x] ∧ H a = some (exo a C none) ∧
  ∀ dx, H dx = none → dx ≠ a → Q .non (upd (upd H dx (exd dx [(f, x)])) a (exo a C (some dx)))
def sp_init2 (C : Addr) (f1 f2 : Str) : Sp := fun vs H Q _ => ∃ (a : Addr) (x y : V), vs = [.ref a, x, y] ∧ H a = some (exo a C none) ∧
  ∀ dx, H dx = none → dx ≠ a → Q .non (upd (upd (upd H dx (exd dx [(f1, x)])) a (exo a C (some dx))) dx (exd dx [(f2, y), (f1, x)]))
section
variable {P : Program} {w : World} {K : PySem.W.Frag} {mg : Str → Option Value} {base : Heap}
theorem oki_OutOfPlace (T : Txt K mg) : FnOk P w K mg base CX0 2 T.fi_OutOfPlace T.di_OutOfPlace ["self", "text"] (sp_init0 K T.C_OutOfPlace) := by
  refine T.Fi_OutOfPlace.ok sci_OutOfPlace (fun vs H Q E h => ?_) (fun cdv A outer s H vs Q E hr h => ?_)
  · obtain ⟨a, t, rfl, _⟩ := h
    rfl
  · obtain ⟨a, t, rfl, ha, q⟩ := h
    refine ⟨_, pss_one (ps_expr (pe_veinit (by rfl) T.zV T.vV (pa_cons (pv 0) (pa_cons (pv 1) pa_nil)))), ?_⟩
    exact ⟨_, rfl, _, rfl, a, T.C_OutOfPlace, [.str t], rfl, by show 1 ≤ 1000; decide, T.o_OutOfPlace, ha, q⟩
theorem oki_NoSeam (T : Txt K mg) : FnOk P w K mg base CX0 2 T.fi_NoSeam T.di_NoSeam ["self", "text"] (sp_init0 K T.C_NoSeam) := by
  refine T.Fi_NoSeam.ok sci_NoSeam (fun vs H Q E h => ?_) (fun cdv A outer s H vs Q E hr h => ?_)
  · obtain ⟨a, t, rfl, _⟩ := h
    rfl
  · obtain ⟨a, t, rfl, ha, q⟩ := h
    refine ⟨_, pss_one (ps_expr (pe_veinit (by rfl) T.zV T.vV (pa_cons (pv 0) (pa_cons (pv 1) pa_nil)))), ?_⟩
    exact ⟨_, rfl, _, rfl, a, T.C_NoSeam, [.str t], rfl, by show 1 ≤ 1000; decide, T.o_NoSeam, ha, q⟩
theorem oki_Nothing (T : Txt K mg) : FnOk P w K mg base CX0 2 T.fi_Nothing T.di_Nothing ["self", "text"] (sp_init0 K T.C_Nothing) := by
  refine T.Fi_Nothing.ok sci_Nothing (fun vs H Q E h => ?_) (fun cdv A outer s H vs Q E hr h => ?_)
  · obtain ⟨a, t, rfl, _⟩ := h
    rfl
  · obtain ⟨a, t, rfl, ha, q⟩ := h
    refine ⟨_, pss_one (ps_expr (My.pe_leinit (by rfl) T.zL T.vL (pa_cons (pv 0) (pa_cons (pv 1) pa_nil)))), ?_⟩
    exact ⟨_, rfl, _, rfl, a, T.C_Nothing, [.str t], rfl, by show 1 ≤ 1000; decide, T.o_Nothing, ha, q⟩
theorem oki_BadCoder (T : Txt K mg) : FnOk P w K mg base CX0 2 T.fi_BadCoder T.di_BadCoder ["self", "part", "number"] (sp_init2 T.C_BadCoder "part" "number") := by
  refine T.Fi_BadCoder.ok sci_BadCoder (fun vs H Q E h => ?_) (fun cdv A outer s H vs Q E hr h => ?_)
  · obtain ⟨a, x, y, rfl, _⟩ := h
    rfl
  · obtain ⟨a, x, y, rfl, ha, q⟩ := h
    refine ⟨_, pss_cons (ps_ost (pv 0) (pv 1)) (pss_one (ps_ost (pv 0) (pv 2))), ?_⟩
    refine ⟨_, rfl, _, rfl, a, T.C_BadCoder, rfl, T.o_BadCoder, T.n_BadCoder_part, .inl ⟨ha, fun dx hdx ne => ?_⟩⟩
    refine ⟨_, rfl, _, rfl, a, T.C_BadCoder, rfl, T.o_BadCoder, T.n_BadCoder_number, .inr ⟨dx, _, upd_same, (upd_ne ne).trans upd_same, by show 1 ≤ 900; decide, q dx hdx ne⟩⟩
theorem oki_BadRow (T : Txt K mg) : FnOk P w K mg base CX0 2 T.fi_BadRow T.di_BadRow ["self", "row", "word"] (sp_init2 T.C_BadRow "row" "word") := by
  refine T.Fi_BadRow.ok sci_BadRow (fun vs H Q E h => ?_) (fun cdv A outer s H vs Q E hr h => ?_)
  · obtain ⟨a, x, y, rfl, _⟩ := h
    rfl
  · obtain ⟨a, x, y, rfl, ha, q⟩ := h
    refine ⟨_, pss_cons (ps_ost (pv 0) (pv 1)) (pss_one (ps_ost (pv 0) (pv 2))), ?_⟩
    refine ⟨_, rfl, _, rfl, a, T.C_BadRow, rfl, T.o_BadRow, T.n_BadRow_row, .inl ⟨ha, fun dx hdx ne => ?_⟩⟩
    refine ⟨_, rfl, _, rfl, a, T.C_BadRow, rfl, T.o_BadRow, T.n_BadRow_word, .inr ⟨dx, _, upd_same, (upd_ne ne).trans upd_same, by show 1 ≤ 900; decide, q dx hdx ne⟩⟩
theorem oki_TooGreat (T : Txt K mg) : FnOk P w K mg base CX0 2 T.fi_TooGreat T.di_TooGreat ["self", "most"] (sp_init1 T.C_TooGreat "most") := by
  refine T.Fi_TooGreat.ok sci_TooGreat (fun vs H Q E h => ?_) (fun cdv A outer s H vs Q E hr h => ?_)
  · obtain ⟨a, x, rfl, _⟩ := h
    rfl
  · obtain ⟨a, x, rfl, ha, q⟩ := h
    refine ⟨_, pss_one (ps_put (pv 0) (pv 1)), ?_⟩
    exact ⟨_, rfl, _, rfl, a, T.C_TooGreat, rfl, T.o_TooGreat, T.n_TooGreat_most, ha, q⟩
end
end My

namespace My
open PySem PySem.Spec PyProof.Rows L2
/-! ### coders, states, the move of a code: the mathematics -/
structure Cod where
  low : Int
  high : Int
  steps : List Int
  moves : List (Int × Int)
  fade : Int
def pairI (p : Int × Int) : PyData := .tuple [.int p.1, .int p.2]
def Cod.dat (C : Cod) : PyData := .tuple [.int C.low, .int C.high, .tuple (C.steps.map .int), .tuple (C.moves.map pairI), .int C.fade]
structure Cod.Ok (C : Cod) : Prop where
  l1 : -32768 ≤ C.low
  l2 : C.low ≤ 0
  h1 : 0 ≤ C.high
  h2 : C.high ≤ 32767
  s1 : 1 ≤ C.steps.length
  s2 : C.steps.length ≤ 16
  s3 : ∀ s ∈ C.steps, 1 ≤ s ∧ s ≤ 9999
  m1 : 2 ≤ C.moves.length
  m2 : C.moves.length ≤ 16
  m3 : ∀ p ∈ C.moves, (-32 ≤ p.1 ∧ p.1 ≤ 32) ∧ (-15 ≤ p.2 ∧ p.2 ≤ 15)
  f1 : C.fade = 0 ∨ (2 ≤ C.fade ∧ C.fade ≤ 99)
def rnd (n d : Int) : Int := if n < 0 then -((-n).fdiv d) else n.fdiv d
def lim (n lo hi : Int) : Int := if n < lo then lo else if hi < n then hi else n
def fdd (l f : Int) : Int := if f = 0 then l else l - rnd l f
def Cod.chg (C : Cod) (k p : Nat) : Int := rnd ((C.moves.getD k (0, 0)).1 * C.steps.getD p 0) 8
def Cod.led (C : Cod) (s : Int × Int) (k : Nat) : Int × Int :=
  (lim (fdd s.1 C.fade + C.chg k s.2.toNat) C.low C.high, lim (s.2 + (C.moves.getD k (0, 0)).2) 0 ((C.steps.length : Int) - 1))
def Cod.St (C : Cod) (s : Int × Int) : Prop := C.low ≤ s.1 ∧ s.1 ≤ C.high ∧ 0 ≤ s.2 ∧ s.2 < C.steps.length
theorem lim_in {n lo hi : Int} (h : lo ≤ hi) : lo ≤ lim n lo hi ∧ lim n lo hi ≤ hi := by
  unfold lim
  split
  · omega
  · split <;> omega
theorem Cod.led_St {C : Cod} (O : C.Ok) (s : Int × Int) (k : Nat) : C.St (C.led s k) := by
  have h1 := lim_in (n := fdd s.1 C.fade + C.chg k s.2.toNat) (lo := C.low) (hi := C.high) (by have := O.l2; have := O.h1; omega)
  have h2 := lim_in (n := s.2 + (C.moves.getD k (0, 0)).2) (lo := 0) (hi := (C.steps.length : Int) - 1) (by have := O.s1; omega)
  exact ⟨h1.1, h1.2, h2.1, by show lim _ _ _ < _; omega⟩
theorem badAt_none {p : PyData → Bool} : ∀ {ds : List PyData} {i : Nat}, (∀ d ∈ ds, p d = true) → badAt p i ds = none
  | [], _, _ => rfl
  | d :: r, i, h => by
    show (if p d = true then badAt p (i + 1) r else some i) = none
    rw [if_pos (h d List.mem_cons_self)]
    exact badAt_none fun e he => h e (List.mem_cons_of_mem _ he)
theorem btw_in {n lo hi : Int} (h1 : lo ≤ n) (h2 : n ≤ hi) : btw (.int n) lo hi = true := by
  show (decide _ && decide _) = true
  rw [decide_eq_true h1, decide_eq_true h2]
  rfl
theorem tup_in {ds : List PyData} {lo hi : Int} (h1 : lo ≤ (ds.length : Int)) (h2 : (ds.length : Int) ≤ hi) : tupD (.tuple ds) lo hi = true := by
  show (decide _ && decide _) = true
  rw [decide_eq_true h1, decide_eq_true h2]
  rfl
theorem Cod.Ok.first {C : Cod} (O : C.Ok) : firstF C.dat = .none := by
  have e1 : stepsF (.tuple (C.steps.map .int)) = .none := by
    show (if _ then _ else _) = _
    rw [if_pos (tup_in (by rw [List.length_map]; have := O.s1; omega) (by rw [List.length_map]; have := O.s2; omega)), badAt_none]
    · rfl
    · intro d hd
      obtain ⟨s, hs, rfl⟩ := List.mem_map.mp hd
      exact btw_in (O.s3 s hs).1 (O.s3 s hs).2
  have e2 : movesF (.tuple (C.moves.map pairI)) = .none := by
    show (if _ then _ else _) = _
    rw [if_pos (tup_in (by rw [List.length_map]; have := O.m1; omega) (by rw [List.length_map]; have := O.m2; omega)), badAt_none]
    · rfl
    · intro d hd
      obtain ⟨p, hp, rfl⟩ := List.mem_map.mp hd
      obtain ⟨⟨a1, a2⟩, b1, b2⟩ := O.m3 p hp
      show (btw (.int p.1) (-32) 32 && btw (.int p.2) (-15) 15) = true
      rw [btw_in a1 a2, btw_in b1 b2]
      rfl
  have e3 : fadeD (.int C.fade) = true := by
    unfold fadeD
    rcases O.f1 with h | ⟨h1, h2⟩
    · rw [btw_in (by omega) (by omega)]
      rfl
    · rw [btw_in h1 h2, Bool.or_true]
  show codF (.int C.low) (.int C.high) (.tuple (C.steps.map .int)) (.tuple (C.moves.map pairI)) (.int C.fade) = .none
  unfold codF
  rw [if_pos (btw_in O.l1 O.l2), if_pos (btw_in O.h1 O.h2), e1, e2, if_pos e3]
theorem dpAll_ints {K : PySem.W.Frag} {H : Hp} : ∀ {ns : List Int} {xs : List V}, DpAll K H xs (ns.map .int) → xs = ns.map V.int
  | [], _, h => by cases h; rfl
  | n :: r, _, h => by
    cases h with
    | cons a b =>
      cases a
      rw [dpAll_ints b]
      rfl
theorem dp_int {K : PySem.W.Frag} {H : Hp} {v : V} {n : Int} (h : Dp K H v (.int n)) : v = .int n := by
  cases h
  rfl
theorem dpAll2 {K : PySem.W.Frag} {H : Hp} {xs : List V} {a b : PyData} (h : DpAll K H xs [a, b]) : ∃ x1 x2, xs = [x1, x2] ∧ Dp K H x1 a ∧ Dp K H x2 b := by
  cases h with
  | cons h1 h => cases h with
    | cons h2 h => cases h with
      | nil => exact ⟨_, _, rfl, h1, h2⟩
theorem dp_pair {K : PySem.W.Frag} {H : Hp} {v : V} {p : Int × Int} (h : Dp K H v (pairI p)) : ∃ a, v = .ref a ∧ SqT K H a [.int p.1, .int p.2] := by
  obtain ⟨a, xs, rfl, ha, hd⟩ := dp_tup h
  obtain ⟨x1, x2, rfl, h1, h2⟩ := dpAll2 hd
  rw [dp_int h1, dp_int h2] at ha
  exact ⟨a, rfl, ha⟩
/-- a coder's parts -/
theorem cod_at {K : PySem.W.Frag} {H : Hp} {c : V} {C : Cod} (h : Dp K H c C.dat) : ∃ (a s m : Addr) (ms : List V), c = .ref a ∧ SqT K H a [.int C.low, .int C.high, .ref s, .ref m, .int C.fade] ∧
    SqT K H s (C.steps.map V.int) ∧ SqT K H m ms ∧ DpAll K H ms (C.moves.map pairI) := by
  obtain ⟨a, xs, rfl, ha, hd⟩ := dp_tup h
  obtain ⟨x1, x2, x3, x4, x5, rfl, h1, h2, h3, h4, h5⟩ := dpAll5 hd
  obtain ⟨s, ys, rfl, hs, hsd⟩ := dp_tup h3
  obtain ⟨m, ms, rfl, hm, hmd⟩ := dp_tup h4
  rw [dp_int h1, dp_int h2, dp_int h5] at ha
  rw [dpAll_ints hsd] at hs
  exact ⟨a, s, m, ms, rfl, ha, hs, hm, hmd⟩
theorem move_at {K : PySem.W.Frag} {H : Hp} {C : Cod} {ms : List V} (h : DpAll K H ms (C.moves.map pairI)) {k : Nat} (hk : k < C.moves.length) :
    ∃ q, ms[k]? = some (.ref q) ∧ SqT K H q [.int (C.moves.getD k (0, 0)).1, .int (C.moves.getD k (0, 0)).2] := by
  have e : (C.moves.map pairI)[k]? = some (pairI (C.moves.getD k (0, 0))) := by
    rw [List.getElem?_map, List.getElem?_eq_getElem hk, List.getD_eq_getElem?_getD, List.getElem?_eq_getElem hk]
    rfl
  obtain ⟨x, hx, hd⟩ := dpAll_get' h e
  obtain ⟨q, rfl, hq⟩ := dp_pair hd
  exact ⟨q, hx, hq⟩
theorem step_at {C : Cod} {p : Nat} (hp : p < C.steps.length) : (C.steps.map V.int)[p]? = some (.int (C.steps.getD p 0)) := by
  rw [List.getElem?_map, List.getElem?_eq_getElem hp, List.getD_eq_getElem?_getD, List.getElem?_eq_getElem hp]
  rfl
theorem btw_out {d : PyData} {lo hi : Int} (h : btw d lo hi = true) : ∃ n, d = .int n ∧ lo ≤ n ∧ n ≤ hi := by
  cases d with
  | int n =>
    obtain ⟨a, b⟩ := Bool.and_eq_true_iff.mp (show (decide (lo ≤ n) && decide (n ≤ hi)) = true from h)
    exact ⟨n, rfl, of_decide_eq_true a, of_decide_eq_true b⟩
  | _ => cases h
theorem badAt_all {p : PyData → Bool} : ∀ {ds : List PyData} {i : Nat}, badAt p i ds = none → ∀ d ∈ ds, p d = true
  | [], _, _, _, hd => by cases hd
  | d :: r, i, h, e, he => by
    have h : (if p d = true then badAt p (i + 1) r else some i) = none := h
    by_cases q : p d = true
    · rw [if_pos q] at h
      rcases List.mem_cons.mp he with z | z
      · rw [z]; exact q
      · exact badAt_all h e z
    · rw [if_neg q] at h
      cases h
theorem badAt_lt {p : PyData → Bool} : ∀ {ds : List PyData} {i k : Nat}, badAt p i ds = some k → k < i + ds.length
  | [], _, _, h => by cases h
  | d :: r, i, k, h => by
    have h : (if p d = true then badAt p (i + 1) r else some i) = some k := h
    rw [List.length_cons]
    by_cases e : p d = true
    · rw [if_pos e] at h
      have := badAt_lt h
      omega
    · rw [if_neg e] at h
      cases h
      omega
/-- a fault's form: nothing, or a short word and nothing or a small number -/
def Flt (e : PyData) : Prop := e = .none ∨ ∃ s : Str, s ∈ (["form", "low", "high", "steps", "moves", "fade"] : List Str) ∧ (e = .tuple [.str s, .none] ∨ ∃ k : Nat, k ≤ 16 ∧ e = .tuple [.str s, .int (k : Int)])
theorem rowF_flt {s : Str} {lo hi : Int} {p : PyData → Bool} (hs : s ∈ (["form", "low", "high", "steps", "moves", "fade"] : List Str)) (hh : hi ≤ 16) (d : PyData) : Flt (rowF s lo hi p d) := by
  cases d with
  | tuple ds =>
    show Flt (if tupD (.tuple ds) lo hi = true then faultD s (badAt p 0 ds) else .tuple [.str s, .none])
    by_cases h : tupD (.tuple ds) lo hi = true
    · rw [if_pos h]
      cases e : badAt p 0 ds with
      | none => exact .inl rfl
      | some k =>
        have h1 := badAt_lt e
        have h2 := of_decide_eq_true (Bool.and_eq_true_iff.mp (show (decide (lo ≤ (ds.length : Int)) && decide ((ds.length : Int) ≤ hi)) = true from h)).2
        exact .inr ⟨s, hs, .inr ⟨k, by omega, rfl⟩⟩
    · rw [if_neg h]
      exact .inr ⟨s, hs, .inl rfl⟩
  | _ => exact .inr ⟨s, hs, .inl rfl⟩
theorem stepsF_flt (d : PyData) : Flt (stepsF d) := rowF_flt (by decide +kernel) (by decide) d
theorem movesF_flt (d : PyData) : Flt (movesF d) := rowF_flt (by decide +kernel) (by decide) d
theorem codF_flt (a b c d e : PyData) : Flt (codF a b c d e) := by
  unfold codF
  by_cases h1 : btw a (-32768) 0 = true
  · rw [if_pos h1]
    by_cases h2 : btw b 0 32767 = true
    · rw [if_pos h2]
      rcases stepsF_flt c with z | ⟨s, hs, z | ⟨k, hk, z⟩⟩
      · rw [z]
        rcases movesF_flt d with y | ⟨s, hs, y | ⟨k, hk, y⟩⟩
        · rw [y]
          dsimp only
          by_cases h3 : fadeD e = true
          · rw [if_pos h3]; exact .inl rfl
          · rw [if_neg h3]; exact .inr ⟨"fade", by decide +kernel, .inl rfl⟩
        · rw [y]; exact .inr ⟨s, hs, .inl rfl⟩
        · rw [y]; exact .inr ⟨s, hs, .inr ⟨k, hk, rfl⟩⟩
      · rw [z]; exact .inr ⟨s, hs, .inl rfl⟩
      · rw [z]; exact .inr ⟨s, hs, .inr ⟨k, hk, rfl⟩⟩
    · rw [if_neg h2]; exact .inr ⟨"high", by decide +kernel, .inl rfl⟩
  · rw [if_neg h1]; exact .inr ⟨"low", by decide +kernel, .inl rfl⟩
theorem firstF_flt (d : PyData) : Flt (firstF d) := by
  unfold firstF
  split
  · exact codF_flt ..
  · exact .inr ⟨"form", by decide +kernel, .inl rfl⟩
theorem rowF_none {s : Str} {lo hi : Int} {p : PyData → Bool} {d : PyData} (h : rowF s lo hi p d = .none) : ∃ ds, d = .tuple ds ∧ lo ≤ (ds.length : Int) ∧ (ds.length : Int) ≤ hi ∧ ∀ e ∈ ds, p e = true := by
  cases d with
  | tuple ds =>
    have h : (if tupD (.tuple ds) lo hi = true then faultD s (badAt p 0 ds) else .tuple [.str s, .none]) = .none := h
    by_cases q : tupD (.tuple ds) lo hi = true
    · rw [if_pos q] at h
      obtain ⟨a, b⟩ := Bool.and_eq_true_iff.mp (show (decide (lo ≤ (ds.length : Int)) && decide ((ds.length : Int) ≤ hi)) = true from q)
      cases e : badAt p 0 ds with
      | none => exact ⟨ds, rfl, of_decide_eq_true a, of_decide_eq_true b, badAt_all e⟩
      | some k => rw [e] at h; cases h
    · rw [if_neg q] at h
      cases h
  | _ => cases h
theorem ints_of {lo hi : Int} : ∀ {ds : List PyData}, (∀ e ∈ ds, btw e lo hi = true) → ∃ ns : List Int, ds = ns.map .int ∧ ∀ n ∈ ns, lo ≤ n ∧ n ≤ hi
  | [], _ => ⟨[], rfl, fun _ h => by cases h⟩
  | d :: r, h => by
    obtain ⟨n, rfl, h1, h2⟩ := btw_out (h d List.mem_cons_self)
    obtain ⟨ns, rfl, hn⟩ := ints_of fun e he => h e (List.mem_cons_of_mem _ he)
    refine ⟨n :: ns, rfl, fun k hk => ?_⟩
    rcases List.mem_cons.mp hk with z | z
    · rw [z]; exact ⟨h1, h2⟩
    · exact hn k z
theorem pairs_of : ∀ {ds : List PyData}, (∀ e ∈ ds, moveD e = true) → ∃ ps : List (Int × Int), ds = ps.map pairI ∧ ∀ p ∈ ps, (-32 ≤ p.1 ∧ p.1 ≤ 32) ∧ (-15 ≤ p.2 ∧ p.2 ≤ 15)
  | [], _ => ⟨[], rfl, fun _ h => by cases h⟩
  | d :: r, h => by
    obtain ⟨ps, rfl, hn⟩ := pairs_of fun e he => h e (List.mem_cons_of_mem _ he)
    have hd := h d List.mem_cons_self
    obtain ⟨a, b, rfl, h1, h2⟩ : ∃ a b, d = .tuple [a, b] ∧ btw a (-32) 32 = true ∧ btw b (-15) 15 = true := by
      unfold moveD at hd
      split at hd
      · exact ⟨_, _, rfl, Bool.and_eq_true_iff.mp hd⟩
      · cases hd
    obtain ⟨x, rfl, x1, x2⟩ := btw_out h1
    obtain ⟨y, rfl, y1, y2⟩ := btw_out h2
    refine ⟨(x, y) :: ps, rfl, fun k hk => ?_⟩
    rcases List.mem_cons.mp hk with z | z
    · rw [z]; exact ⟨⟨x1, x2⟩, y1, y2⟩
    · exact hn k z
/-- what has no fault is a coder -/
theorem firstF_cod {d : PyData} (h : firstF d = .none) : ∃ C : Cod, C.Ok ∧ d = C.dat := by
  unfold firstF at h
  split at h
  · rename_i a b c e f
    unfold codF at h
    by_cases h1 : btw a (-32768) 0 = true
    · rw [if_pos h1] at h
      by_cases h2 : btw b 0 32767 = true
      · rw [if_pos h2] at h
        cases hs : stepsF c with
        | none =>
          rw [hs] at h
          dsimp only at h
          cases hm : movesF e with
          | none =>
            rw [hm] at h
            dsimp only at h
            by_cases h3 : fadeD f = true
            · obtain ⟨low, rfl, a1, a2⟩ := btw_out h1
              obtain ⟨high, rfl, b1, b2⟩ := btw_out h2
              obtain ⟨ds, rfl, d1, d2, d3⟩ := rowF_none hs
              obtain ⟨ns, rfl, hn⟩ := ints_of d3
              obtain ⟨es, rfl, e1, e2, e3⟩ := rowF_none hm
              obtain ⟨ps, rfl, hp⟩ := pairs_of e3
              rw [List.length_map] at d1 d2 e1 e2
              obtain ⟨n, rfl, f1⟩ : ∃ n, f = .int n ∧ (n = 0 ∨ (2 ≤ n ∧ n ≤ 99)) := by
                unfold fadeD at h3
                rcases Bool.or_eq_true_iff.mp h3 with z | z
                · obtain ⟨n, rfl, z1, z2⟩ := btw_out z
                  exact ⟨n, rfl, .inl (by omega)⟩
                · obtain ⟨n, rfl, z1, z2⟩ := btw_out z
                  exact ⟨n, rfl, .inr ⟨z1, z2⟩⟩
              exact ⟨⟨low, high, ns, ps, n⟩, ⟨a1, a2, b1, b2, by show 1 ≤ ns.length; omega, by show ns.length ≤ 16; omega, hn, by show 2 ≤ ps.length; omega, by show ps.length ≤ 16; omega, hp, f1⟩, rfl⟩
            · rw [if_neg h3] at h
              cases h
          | _ => rw [hm] at h; cases h
        | _ => rw [hs] at h; cases h
      · rw [if_neg h2] at h
        cases h
    · rw [if_neg h1] at h
      cases h
  · cases h
section
variable {P : Program} {w : World} {K : PySem.W.Frag} {mg : Str → Option Value} {base : Heap}
/-- the two fields of a fault -/
inductive FltV : PyData → V → V → Prop
  | non (s : Str) : FltV (.tuple [.str s, .none]) (.str s) .non
  | int (s : Str) (k : Int) : FltV (.tuple [.str s, .int k]) (.str s) (.int k)
def sp_need_coder (K : PySem.W.Frag) (B : Addr) : Sp := fun vs H Q E => ∃ (x : V) (d : PyData), vs = [x] ∧ Dp K H x d ∧ (firstF d = .none → ∀ H', Same H H' → Q x H') ∧
  (∀ y z, FltV (firstF d) y z → TwoE B "part" "number" H E y z)
theorem ok_need_coder (T : Txt K mg) : FnOk P w K mg base (L2.CX P w) 6 T.f_need_coder T.d_need_coder ["thing"] (sp_need_coder K T.C_BadCoder) := by
  refine T.F_need_coder.okX sc_need_coder (fun vs H Q E h => ?_) (fun cdv A outer s H vs Q E hr h => ?_)
  · obtain ⟨x, d, rfl, _⟩ := h
    rfl
  · obtain ⟨x, d, rfl, hd, q1, q2⟩ := h
    refine ⟨_,
(pss_cons (ps_set (i := 1) sc_need_coder.nd rfl (Or.inl rfl) (pe_call (ok_first_fault T) (hr.mono (by decide)) (by rfl) T.g__first_fault T.F__first_fault.kp T.b__first_fault .nil pass0 (pa_cons (pv 0) pa_nil)))
      (pss_cons (ps_if (pt_cmpR op_notN (pv 1) pe_non (nomark _)) (pss_one (ps_raise rfl (takes_of rfl rfl rfl rfl) (pmk_oex T.o_BadCoder T.i_BadCoder T.t_BadCoder (oki_BadCoder T) (hr.mono (by decide)) T.bi_BadCoder .nil pass0 (by rfl) T.g_BadCoder (pa_cons (pe_ix ix_tup (pv 1) pe_int (fun _ _ => rfl)) (pa_cons (pe_ix ix_tup (pv 1) pe_int (fun _ _ => rfl)) pa_nil))))) pss_nil)
      (pss_one (ps_ret (pv 0)))))
, ?_⟩
    refine ⟨x, rfl, x, d, rfl, hd, fun z H1 s1 hz => ?_⟩
    refine ⟨_, rfl, rfl, _, rfl, ?_⟩
    show if (!decide (z = V.non)) = true then _ else _
    rw [dp_isN hz]
    rcases firstF_flt d with e | ⟨s, _, e | ⟨k, _, e⟩⟩
    · rw [e]
      refine iteF ?_
      exact ⟨x, rfl, q1 e H1 s1⟩
    · rw [e] at hz q2 ⊢
      refine iteT ?_
      obtain ⟨a, xs, rfl, ha, hds⟩ := dp_tup hz
      obtain ⟨x1, x2, rfl, h1, h2⟩ := dpAll2 hds
      cases h1
      cases h2
      exact ⟨_, rfl, a, _, 0, _, rfl, rfl, ha, atI_nat (j := 0) rfl, _, rfl, a, _, 1, _, rfl, rfl, ha, atI_nat (j := 1) rfl, by show 2 ≤ 1000; decide, fun b hb => ⟨b, _, _, rfl, upd_same, fun dd hd n =>
        ⟨rfl, dd, _, (upd_ne n.symm).trans upd_same, upd_same, (upd_ne n).symm.trans hd, twoE_mk ((q2 _ _ (.non s)).same s1) hb hd n⟩⟩⟩
    · rw [e] at hz q2 ⊢
      refine iteT ?_
      obtain ⟨a, xs, rfl, ha, hds⟩ := dp_tup hz
      obtain ⟨x1, x2, rfl, h1, h2⟩ := dpAll2 hds
      cases h1
      cases h2
      exact ⟨_, rfl, a, _, 0, _, rfl, rfl, ha, atI_nat (j := 0) rfl, _, rfl, a, _, 1, _, rfl, rfl, ha, atI_nat (j := 1) rfl, by show 2 ≤ 1000; decide, fun b hb => ⟨b, _, _, rfl, upd_same, fun dd hd n =>
        ⟨rfl, dd, _, (upd_ne n.symm).trans upd_same, upd_same, (upd_ne n).symm.trans hd, twoE_mk ((q2 _ _ (.int s _)).same s1) hb hd n⟩⟩⟩
def sp_is_code (K : PySem.W.Frag) : Sp := fun vs H Q _ => ∃ (c x : V) (C : Cod) (d : PyData), vs = [c, x] ∧ Dp K H c C.dat ∧ Dp K H x d ∧ ∀ H', Same H H' → Q (.bl (btw d 0 ((C.moves.length : Int) - 1))) H'
theorem ok_is_code (T : Txt K mg) : FnOk P w K mg base CX0 3 T.f_is_code T.d_is_code ["coder", "thing"] (sp_is_code K) := by
  refine T.F_is_code.ok sc_is_code (fun vs H Q E h => ?_) (fun cdv A outer s H vs Q E hr h => ?_)
  · obtain ⟨c, x, C, d, rfl, _⟩ := h
    rfl
  · obtain ⟨c, x, C, d, rfl, hc, hd, q⟩ := h
    obtain ⟨a, s, m, ms, rfl, ha, hs, hm, hmd⟩ := cod_at hc
    refine ⟨_,
(pss_one (ps_ret (pe_call (ok_is_between T) (hr.mono (by decide)) (by rfl) T.g_is_between T.F_is_between.kp T.b_is_between .nil pass0 (pa_cons (pv 1) (pa_cons pe_int (pa_cons (pe_op op_sub (pe_callB (call_len_seq) (by rfl) T.z_len (by decide +kernel) (pa_cons (pe_ix ix_tup (pv 0) pe_int (fun _ _ => rfl)) pa_nil)) pe_int) pa_nil))))))
, ?_⟩
    refine ⟨x, rfl, _, rfl, a, _, 3, .ref m, rfl, rfl, ha, atI_nat (j := 3) rfl, m, ms, rfl, .inr hm, _, _, rfl, rfl, ?_⟩
    have e : (ms.length : Int) - 1 = (C.moves.length : Int) - 1 := by rw [dpAll_len hmd, List.length_map]
    refine ⟨x, d, 0, _, rfl, hd, fun H1 s1 => ?_⟩
    show Q (.bl (btw d 0 ((ms.length : Int) - 1))) H1
    rw [e]
    exact q H1 s1
def sp_is_place (K : PySem.W.Frag) : Sp := fun vs H Q _ => ∃ (c x : V) (C : Cod) (d : PyData), vs = [c, x] ∧ Dp K H c C.dat ∧ Dp K H x d ∧ ∀ H', Same H H' → Q (.bl (btw d 0 ((C.steps.length : Int) - 1))) H'
theorem ok_is_place (T : Txt K mg) : FnOk P w K mg base CX0 3 T.f_is_place T.d_is_place ["coder", "thing"] (sp_is_place K) := by
  refine T.F_is_place.ok sc_is_place (fun vs H Q E h => ?_) (fun cdv A outer s H vs Q E hr h => ?_)
  · obtain ⟨c, x, C, d, rfl, _⟩ := h
    rfl
  · obtain ⟨c, x, C, d, rfl, hc, hd, q⟩ := h
    obtain ⟨a, s, m, ms, rfl, ha, hs, hm, hmd⟩ := cod_at hc
    refine ⟨_,
(pss_one (ps_ret (pe_call (ok_is_between T) (hr.mono (by decide)) (by rfl) T.g_is_between T.F_is_between.kp T.b_is_between .nil pass0 (pa_cons (pv 1) (pa_cons pe_int (pa_cons (pe_op op_sub (pe_callB (call_len_seq) (by rfl) T.z_len (by decide +kernel) (pa_cons (pe_ix ix_tup (pv 0) pe_int (fun _ _ => rfl)) pa_nil)) pe_int) pa_nil))))))
, ?_⟩
    refine ⟨x, rfl, _, rfl, a, _, 2, .ref s, rfl, rfl, ha, atI_nat (j := 2) rfl, s, _, rfl, .inr hs, _, _, rfl, rfl, ?_⟩
    refine ⟨x, d, 0, _, rfl, hd, fun H1 s1 => ?_⟩
    show Q (.bl (btw d 0 (((C.steps.map V.int).length : Int) - 1))) H1
    rw [List.length_map]
    exact q H1 s1
def stateD (C : Cod) : PyData → Bool
  | .tuple [a, b] => btw a C.low C.high && btw b 0 ((C.steps.length : Int) - 1)
  | _ => false
theorem pairD_two {d : PyData} (h : pairD d = true) : ∃ a b, d = .tuple [a, b] := by
  cases d with
  | tuple ds =>
    match ds, h with
    | [a, b], _ => exact ⟨a, b, rfl⟩
    | [], hp => cases hp
    | [a], hp => cases hp
    | a :: b :: c :: r, hp =>
      have := of_decide_eq_true (show decide (((a :: b :: c :: r).length : Int) = 2) = true from hp)
      simp at this
      omega
  | _ => cases h
def sp_is_state (K : PySem.W.Frag) : Sp := fun vs H Q _ => ∃ (c x : V) (C : Cod) (d : PyData), vs = [c, x] ∧ Dp K H c C.dat ∧ Dp K H x d ∧ ∀ H', Same H H' → Q (.bl (stateD C d)) H'
theorem ok_is_state (T : Txt K mg) : FnOk P w K mg base CX0 4 T.f_is_state T.d_is_state ["coder", "thing"] (sp_is_state K) := by
  refine T.F_is_state.ok sc_is_state (fun vs H Q E h => ?_) (fun cdv A outer s H vs Q E hr h => ?_)
  · obtain ⟨c, x, C, d, rfl, _⟩ := h
    rfl
  · obtain ⟨c, x, C, d, rfl, hc, hd, q⟩ := h
    have q' : ∀ b H', Same H H' → stateD C d = b → Q (.bl b) H' := fun b H' s e => e ▸ q H' s
    refine ⟨_,
(pss_one (ps_ret (pe_and (pe_call (ok_is_pair T) (hr.mono (by decide)) (by rfl) T.g_is_pair T.F_is_pair.kp T.b_is_pair .nil pass0 (pa_cons (pv 1) pa_nil)) (pe_and (pe_call (ok_is_between T) (hr.mono (by decide)) (by rfl) T.g_is_between T.F_is_between.kp T.b_is_between .nil pass0 (pa_cons (pe_ix ix_tup (pv 1) pe_int (fun _ _ => rfl)) (pa_cons (pe_ix ix_tup (pv 0) pe_int (fun _ _ => rfl)) (pa_cons (pe_ix ix_tup (pv 0) pe_int (fun _ _ => rfl)) pa_nil)))) (pe_one (pe_call (ok_is_place T) (hr.mono (by decide)) (by rfl) T.g_is_place T.F_is_place.kp T.b_is_place .nil pass0 (pa_cons (pv 0) (pa_cons (pe_ix ix_tup (pv 1) pe_int (fun _ _ => rfl)) pa_nil))))))))
, ?_⟩
    refine ⟨x, rfl, x, d, rfl, hd, fun H1 s1 => ⟨_, rfl, ?_⟩⟩
    cases hp : pairD d with
    | false =>
      refine iteF (q' _ _ s1 ?_)
      unfold stateD
      split
      · cases hp
      · rfl
    | true =>
      refine iteT ?_
      obtain ⟨da, db, rfl⟩ := pairD_two hp
      obtain ⟨a, s, m, ms, rfl, ha, hs, hm, hmd⟩ := cod_at (dp_same s1 _ _ hc)
      obtain ⟨t, ts, rfl, ht, htd⟩ := dp_tup (dp_same s1 _ _ hd)
      obtain ⟨x1, x2, rfl, h1, h2⟩ := dpAll2 htd
      refine ⟨_, rfl, t, _, 0, x1, rfl, rfl, ht, atI_nat (j := 0) rfl, _, rfl, a, _, 0, _, rfl, rfl, ha, atI_nat (j := 0) rfl, _, rfl, a, _, 1, _, rfl, rfl, ha, atI_nat (j := 1) rfl,
        x1, da, C.low, C.high, rfl, h1, fun H2 s2 => ⟨_, rfl, ?_⟩⟩
      cases hb : btw da C.low C.high with
      | false => exact iteF (q' _ _ (s1.trans s2) (by show (btw da C.low C.high && btw db 0 ((C.steps.length : Int) - 1)) = false; rw [hb]; rfl))
      | true =>
        refine iteT ?_
        refine ⟨_, rfl, _, rfl, t, _, 1, x2, rfl, rfl, same_tup s2 ht, atI_nat (j := 1) rfl, .ref a, x2, C, db, rfl, dp_same s2 _ _ (dp_same s1 _ _ hc), dp_same s2 _ _ h2, fun H3 s3 => ?_⟩
        exact q' _ _ ((s1.trans s2).trans s3) (by show (btw da C.low C.high && btw db 0 ((C.steps.length : Int) - 1)) = _; rw [hb]; rfl)
end
end My

namespace My
open PySem PySem.Spec PyProof.Rows L2
theorem lim_of {n lo hi : Int} (h : lo ≤ hi) : (if (if hi < n then hi else n) > lo then (if hi < n then hi else n) else lo) = lim n lo hi := by
  unfold lim
  split <;> split <;> split <;> omega
section
variable {P : Program} {w : World} {K : PySem.W.Frag} {mg : Str → Option Value} {base : Heap}
theorem okD0 {x qual : Str} {params : Arguments} {body : List Stmt} {scope : Scope} {dvs : List V} {f : Addr} {fd : FuncData} {N ps : List Str} {k : Nat} {sp : Sp}
    (F : ∃ q : Addr, FunD K x qual params body scope dvs [("state", V.ref q)] f fd) (S : FnScope N ps scope) (len : ∀ vs H Q E, sp vs H Q E → vs.length = ps.length)
    (hbody : ∀ (cdv : Value) (A : Around) (outer : List Env) (s : Shared) (H : Hp) (vs : List V) (Q : VK) (E : XK), Room k (A.deeper (envOfC qual scope s.heap.objs.size f cdv)) → sp vs H Q E →
      ∃ t, PSs (cxOf CX0 P w K mg base N qual scope f cdv A outer s H E).nox body t ∧ t { nx := fun _ H' => Q .non H', rt := Q } (start N vs) H) : FnOk P w K mg base CX0 (k + 1) f fd ps sp := by
  obtain ⟨q, F⟩ := F
  refine F.ok S len fun cdv A outer s H vs Q E hr h => ?_
  obtain ⟨t, ht, hq⟩ := hbody cdv A outer s H vs Q E hr h
  exact ⟨t, ht.nox, hq⟩
def sp_rounded : Sp := fun vs H Q _ => ∃ (n d : Int), vs = [.int n, .int d] ∧ 0 < d ∧ d < 1000 ∧ Q (.int (rnd n d)) H
theorem ok_rounded (T : Txt K mg) : FnOk P w K mg base CX0 2 T.f_rounded T.d_rounded ["number", "divisor"] sp_rounded := by
  refine T.F_rounded.ok sc_rounded (fun vs H Q E h => ?_) (fun cdv A outer s H vs Q E hr h => ?_)
  · obtain ⟨n, d, rfl, _⟩ := h
    rfl
  · obtain ⟨n, d, rfl, h1, h2, q⟩ := h
    have q' : ∀ z, rnd n d = z → Q (.int z) H := fun z e => e ▸ q
    refine ⟨_,
(pss_cons (ps_if (pt_cmpR op_lt (pv 0) pe_int (nomark _)) (pss_one (ps_ret (pe_un un_neg (pe_op op_fdivN (pe_un un_neg (pv 0)) (pv 1))))) pss_nil)
      (pss_one (ps_ret (pe_op op_fdivN (pv 0) (pv 1)))))
, ?_⟩
    refine ⟨_, rfl, n, 0, rfl, rfl, _, rfl, ?_⟩
    refine ite2 (fun e => ?_) (fun e => ?_)
    · have e := of_decide_eq_true e
      refine ⟨_, rfl, n, rfl, _, rfl, -n, d, rfl, rfl, ⟨by omega, by omega⟩, _, rfl, q' _ ?_⟩
      unfold rnd
      rw [if_pos e]
    · have e : ¬ n < 0 := fun z => e (decide_eq_true z)
      refine ⟨_, rfl, _, rfl, n, d, rfl, rfl, ⟨by omega, by omega⟩, q' _ ?_⟩
      unfold rnd
      rw [if_neg e]
def sp_limited : Sp := fun vs H Q _ => ∃ (n lo hi : Int), vs = [.int n, .int lo, .int hi] ∧ lo ≤ hi ∧ Q (.int (lim n lo hi)) H
theorem ok_limited (T : Txt K mg) : FnOk P w K mg base CX0 2 T.f_limited T.d_limited ["number", "least", "most"] sp_limited := by
  refine T.F_limited.ok sc_limited (fun vs H Q E h => ?_) (fun cdv A outer s H vs Q E hr h => ?_)
  · obtain ⟨n, lo, hi, rfl, _⟩ := h
    rfl
  · obtain ⟨n, lo, hi, rfl, h1, q⟩ := h
    refine ⟨_,
(pss_one (ps_ret (pe_callB (call_max2 rfl) (by rfl) T.z_max (by decide +kernel) (pa_cons (pv 1) (pa_cons (pe_callB (call_min2 rfl) (by rfl) T.z_min (by decide +kernel) (pa_cons (pv 0) (pa_cons (pv 2) pa_nil))) pa_nil)))))
, ?_⟩
    refine ⟨_, rfl, _, rfl, _, rfl, n, hi, rfl, lo, _, rfl, ?_⟩
    have e := lim_of (n := n) h1
    show Q (.int (if (if hi < n then hi else n) > lo then (if hi < n then hi else n) else lo)) H
    rw [e]
    exact q
def sp_change_at (K : PySem.W.Frag) : Sp := fun vs H Q _ => ∃ (c : V) (C : Cod) (k p : Nat), vs = [c, .int k, .int p] ∧ C.Ok ∧ Dp K H c C.dat ∧ k < C.moves.length ∧ p < C.steps.length ∧ Q (.int (C.chg k p)) H
theorem ok_change_at (T : Txt K mg) : FnOk P w K mg base CX0 3 T.f_change_at T.d_change_at ["coder", "code", "place"] (sp_change_at K) := by
  refine T.F_change_at.ok sc_change_at (fun vs H Q E h => ?_) (fun cdv A outer s H vs Q E hr h => ?_)
  · obtain ⟨c, C, k, p, rfl, _⟩ := h
    rfl
  · obtain ⟨c, C, k, p, rfl, O, hc, hk, hp, q⟩ := h
    obtain ⟨a, s, m, ms, rfl, ha, hs, hm, hmd⟩ := cod_at hc
    obtain ⟨t, ht, hT⟩ := move_at hmd hk
    refine ⟨_,
(pss_cons (ps_set (i := 3) sc_change_at.nd rfl (Or.inl rfl) (pe_ix ix_tup (pe_ix ix_tup (pe_ix ix_tup (pv 0) pe_int (fun _ _ => rfl)) (pv 1) (fun _ _ => rfl)) pe_int (fun _ _ => rfl)))
      (pss_one (ps_ret (pe_call (ok_rounded T) (hr.mono (by decide)) (by rfl) T.g_rounded T.F_rounded.kp T.b_rounded .nil pass0 (pa_cons (pe_op op_mul (pv 3) (pe_ix ix_tup (pe_ix ix_tup (pv 0) pe_int (fun _ _ => rfl)) (pv 2) (fun _ _ => rfl))) (pa_cons pe_int pa_nil))))))
, ?_⟩
    refine ⟨_, rfl, a, _, 3, _, rfl, rfl, ha, atI_nat (j := 3) rfl, _, rfl, m, _, k, _, rfl, rfl, hm, atI_nat ht, t, _, 0, _, rfl, rfl, hT, atI_nat (j := 0) rfl, ?_⟩
    refine ⟨_, rfl, _, rfl, a, _, 2, _, rfl, rfl, ha, atI_nat (j := 2) rfl, _, rfl, s, _, p, _, rfl, rfl, hs, atI_nat (step_at hp), _, _, rfl, rfl, ?_, ?_⟩
    · have hm3 : (C.moves.getD k (0, 0)) ∈ C.moves := by
        rw [List.getD_eq_getElem?_getD, List.getElem?_eq_getElem hk]
        exact List.getElem_mem hk
      have := O.m3 _ hm3
      exact .inl ⟨by omega, by omega⟩
    exact ⟨_, 8, rfl, by decide, by decide, q⟩
def sp_faded : Sp := fun vs H Q _ => ∃ (l f : Int), vs = [.int l, .int f] ∧ (f = 0 ∨ (2 ≤ f ∧ f ≤ 99)) ∧ Q (.int (fdd l f)) H
theorem ok_faded (T : Txt K mg) : FnOk P w K mg base CX0 3 T.f_faded T.d_faded ["level", "fade"] sp_faded := by
  refine T.F_faded.ok sc_faded (fun vs H Q E h => ?_) (fun cdv A outer s H vs Q E hr h => ?_)
  · obtain ⟨l, f, rfl, _⟩ := h
    rfl
  · obtain ⟨l, f, rfl, h1, q⟩ := h
    have q' : ∀ z, fdd l f = z → Q (.int z) H := fun z e => e ▸ q
    refine ⟨_,
(pss_cons (ps_if (pt_cmpR op_eq (pv 1) pe_int (nomark _)) (pss_one (ps_ret (pv 0))) pss_nil)
      (pss_one (ps_ret (pe_op op_sub (pv 0) (pe_call (ok_rounded T) (hr.mono (by decide)) (by rfl) T.g_rounded T.F_rounded.kp T.b_rounded .nil pass0 (pa_cons (pv 0) (pa_cons (pv 1) pa_nil)))))))
, ?_⟩
    refine ⟨_, rfl, rfl, _, rfl, ?_⟩
    refine ite2 (fun e => ?_) (fun e => ?_)
    · have e : f = 0 := V.int.inj (of_decide_eq_true e)
      refine ⟨_, rfl, q' _ ?_⟩
      unfold fdd
      rw [if_pos e]
    · have e : ¬ f = 0 := fun z => e (decide_eq_true (by rw [z]))
      refine ⟨_, rfl, _, rfl, _, rfl, l, f, rfl, by omega, by omega, _, _, rfl, rfl, q' _ ?_⟩
      unfold fdd
      rw [if_neg e]
def sd (s : Int × Int) : PyData := pairI s
/-- a state's pair, as it is read -/
def sp_state_behind (K : PySem.W.Frag) : Sp := fun vs H Q _ => ∃ (c x : V) (C : Cod) (s : Int × Int) (k : Nat), vs = [c, x, .int k] ∧ C.Ok ∧ Dp K H c C.dat ∧ Dp K H x (pairI s) ∧ C.St s ∧ k < C.moves.length ∧
  ∀ p, H p = none → Q (.ref p) (upd H p (.tup [.int (C.led s k).1, .int (C.led s k).2]))
set_option maxHeartbeats 4000000 in
theorem ok_state_behind (T : Txt K mg) : FnOk P w K mg base CX0 4 T.f_state_behind T.d_state_behind ["coder", "state", "code"] (sp_state_behind K) := by
  refine T.F_state_behind.ok sc_state_behind (fun vs H Q E h => ?_) (fun cdv A outer s H vs Q E hr h => ?_)
  · obtain ⟨c, x, C, s, k, rfl, _⟩ := h
    rfl
  · obtain ⟨c, x, C, st, k, rfl, O, hc, hx, hst, hk, q⟩ := h
    have hc' := hc
    obtain ⟨a, s, m, ms, rfl, ha, hs, hm, hmd⟩ := cod_at hc
    obtain ⟨t, ht, hT⟩ := move_at hmd hk
    obtain ⟨b, rfl, hb⟩ := dp_pair hx
    obtain ⟨i1, i2, i3, i4⟩ := hst
    refine ⟨_,
(pss_cons (ps_asg (pv 0) (pg_tup (by rfl) (pgs_cons (pg_name (i := 3) sc_state_behind.nd rfl (Or.inl rfl)) (pgs_cons (pg_name (i := 4) sc_state_behind.nd rfl (Or.inl rfl)) (pgs_cons (pg_name (i := 5) sc_state_behind.nd rfl (Or.inl rfl)) (pgs_cons (pg_name (i := 6) sc_state_behind.nd rfl (Or.inl rfl)) (pgs_cons (pg_name (i := 7) sc_state_behind.nd rfl (Or.inl rfl)) pgs_nil)))))))
      (pss_cons (ps_asg (pv 1) (pg_tup (by rfl) (pgs_cons (pg_name (i := 8) sc_state_behind.nd rfl (Or.inl rfl)) (pgs_cons (pg_name (i := 9) sc_state_behind.nd rfl (Or.inl rfl)) pgs_nil))))
      (pss_cons (ps_set (i := 10) sc_state_behind.nd rfl (Or.inl rfl) (pe_ix ix_tup (pe_ix ix_tup (pv 6) (pv 2) (fun _ _ => rfl)) pe_int (fun _ _ => rfl)))
      (pss_cons (ps_set (i := 11) sc_state_behind.nd rfl (Or.inl rfl) (pe_op op_add (pe_call (ok_faded T) (hr.mono (by decide)) (by rfl) T.g_faded T.F_faded.kp T.b_faded .nil pass0 (pa_cons (pv 8) (pa_cons (pv 7) pa_nil))) (pe_call (ok_change_at T) (hr.mono (by decide)) (by rfl) T.g_change_at T.F_change_at.kp T.b_change_at .nil pass0 (pa_cons (pv 0) (pa_cons (pv 2) (pa_cons (pv 9) pa_nil))))))
      (pss_one (ps_ret (pe_tup (pa_cons (pe_call (ok_limited T) (hr.mono (by decide)) (by rfl) T.g_limited T.F_limited.kp T.b_limited .nil pass0 (pa_cons (pv 11) (pa_cons (pv 3) (pa_cons (pv 4) pa_nil)))) (pa_cons (pe_call (ok_limited T) (hr.mono (by decide)) (by rfl) T.g_limited T.F_limited.kp T.b_limited .nil pass0 (pa_cons (pe_op op_add (pv 9) (pv 10)) (pa_cons pe_int (pa_cons (pe_op op_sub (pe_callB (call_len_seq) (by rfl) T.z_len (by decide +kernel) (pa_cons (pv 5) pa_nil)) pe_int) pa_nil)))) pa_nil)))))))))
, ?_⟩
    refine ⟨_, rfl, a, _, rfl, ha, rfl, _, _, rfl, _, _, rfl, _, _, rfl, _, _, rfl, _, _, rfl, rfl, ?_⟩
    refine ⟨_, rfl, b, _, rfl, hb, rfl, _, _, rfl, _, _, rfl, rfl, ?_⟩
    refine ⟨_, rfl, _, rfl, m, _, k, _, rfl, rfl, hm, atI_nat ht, t, _, 1, _, rfl, rfl, hT, atI_nat (j := 1) rfl, ?_⟩
    refine ⟨_, rfl, _, rfl, st.1, C.fade, rfl, O.f1, ?_⟩
    have e2 : st.2 = (st.2.toNat : Int) := by omega
    refine ⟨_, rfl, _, rfl, _, rfl, .ref a, C, k, st.2.toNat, by show [V.ref a, V.int k, V.int st.2] = _; rw [← e2], O, hc', hk, by omega, _, _, rfl, rfl, ?_⟩
    refine ⟨_, rfl, _, rfl, _, rfl, _, _, _, rfl, by have := O.l2; have := O.h1; omega, ?_⟩
    refine ⟨.int st.2, rfl, .int (C.moves.getD k (0, 0)).2, rfl, st.2, (C.moves.getD k (0, 0)).2, rfl, rfl, .ref s, rfl, s, C.steps.map V.int, rfl, .inr hs, ((C.steps.map V.int).length : Int), 1, rfl, rfl, ?_⟩
    refine ⟨st.2 + (C.moves.getD k (0, 0)).2, 0, ((C.steps.map V.int).length : Int) - 1, rfl, ?_, ?_⟩
    · show (0 : Int) ≤ ((C.steps.map V.int).length : Int) - 1
      rw [List.length_map]
      have := O.s1
      omega
    refine ⟨by show 2 ≤ sizeLine; decide, fun p hp => ?_⟩
    have := q p hp
    unfold Cod.led at this
    have e : ((C.steps.map V.int).length : Int) = (C.steps.length : Int) := by rw [List.length_map]
    rw [← e] at this
    exact this
end
end My

namespace My
open PySem PySem.Spec PyProof.Rows L2
def Cod.run (C : Cod) (s : Int × Int) : List Nat → Int × Int
  | [] => s
  | k :: r => Cod.run C (C.led s k) r
def Cod.lev (C : Cod) (s : Int × Int) : List Nat → List Int
  | [] => []
  | k :: r => (C.led s k).1 :: Cod.lev C (C.led s k) r
theorem run_snoc {C : Cod} : ∀ (r : List Nat) (s : Int × Int) (k : Nat), C.run s (r ++ [k]) = C.led (C.run s r) k
  | [], _, _ => rfl
  | j :: r, s, k => run_snoc r (C.led s j) k
theorem run_app {C : Cod} : ∀ (r : List Nat) (s : Int × Int) (q : List Nat), C.run s (r ++ q) = C.run (C.run s r) q
  | [], _, _ => rfl
  | j :: r, s, q => run_app r (C.led s j) q
theorem lev_snoc {C : Cod} : ∀ (r : List Nat) (s : Int × Int) (k : Nat), C.lev s (r ++ [k]) = C.lev s r ++ [(C.led (C.run s r) k).1]
  | [], _, _ => rfl
  | j :: r, s, k => by
    show (C.led s j).1 :: C.lev (C.led s j) (r ++ [k]) = _
    rw [lev_snoc r (C.led s j) k]
    rfl
theorem lev_app {C : Cod} : ∀ (r : List Nat) (s : Int × Int) (q : List Nat), C.lev s (r ++ q) = C.lev s r ++ C.lev (C.run s r) q
  | [], _, _ => rfl
  | j :: r, s, q => by
    show (C.led s j).1 :: C.lev (C.led s j) (r ++ q) = _
    rw [lev_app r (C.led s j) q]
    rfl
theorem lev_len {C : Cod} : ∀ (r : List Nat) (s : Int × Int), (C.lev s r).length = r.length
  | [], _ => rfl
  | j :: r, s => congrArg (· + 1) (lev_len r (C.led s j))
theorem run_St {C : Cod} (O : C.Ok) : ∀ (r : List Nat) {s : Int × Int}, C.St s → C.St (C.run s r)
  | [], _, h => h
  | k :: r, s, _ => run_St O r (C.led_St O s k)
theorem lev_in {C : Cod} (O : C.Ok) : ∀ (r : List Nat) (s : Int × Int), ∀ z ∈ C.lev s r, C.low ≤ z ∧ z ≤ C.high
  | [], _, _, h => by cases h
  | k :: r, s, z, h => by
    rcases List.mem_cons.mp h with e | e
    · rw [e]
      have := C.led_St O s k
      exact ⟨this.1, this.2.1⟩
    · exact lev_in O r _ z e
def rowI (r : List Nat) : PyData := .tuple (r.map fun k : Nat => PyData.int (k : Int))
def rowV (r : List Nat) : List V := r.map fun k : Nat => V.int (k : Int)
structure Cod.Row (C : Cod) (r : List Nat) : Prop where
  len : r.length ≤ 2000
  lt : ∀ k ∈ r, k < C.moves.length
theorem Cod.St.ok {C : Cod} {s : Int × Int} (h : C.St s) : stateD C (pairI s) = true := by
  show (btw (.int s.1) _ _ && btw (.int s.2) _ _) = true
  rw [btw_in h.1 h.2.1, btw_in h.2.2.1 (by have := h.2.2.2; omega)]
  rfl
theorem dpAll_row {K : PySem.W.Frag} {H : Hp} : ∀ {r : List Nat} {xs : List V}, DpAll K H xs (r.map fun k : Nat => PyData.int (k : Int)) → xs = rowV r
  | [], _, h => by cases h; rfl
  | n :: r, _, h => by
    cases h with
    | cons a b =>
      cases a
      rw [dpAll_row b]
      rfl
theorem row_at {K : PySem.W.Frag} {H : Hp} {v : V} {r : List Nat} (h : Dp K H v (rowI r)) : ∃ a, v = .ref a ∧ SqT K H a (rowV r) := by
  obtain ⟨a, xs, rfl, ha, hd⟩ := dp_tup h
  rw [dpAll_row hd] at ha
  exact ⟨a, rfl, ha⟩
theorem rowV_get {r : List Nat} {i : Nat} {x : V} (h : (rowV r)[i]? = some x) : ∃ k, r[i]? = some k ∧ x = .int (k : Int) := by
  unfold rowV at h
  rw [List.getElem?_map] at h
  cases e : r[i]? with
  | none => rw [e] at h; cases h
  | some k => rw [e] at h; exact ⟨k, rfl, (Option.some.inj h).symm⟩
theorem take_snoc {α : Type} {r : List α} {i : Nat} {k : α} (h : r[i]? = some k) : r.take (i + 1) = r.take i ++ [k] := by
  rw [List.take_add_one, h]
  rfl
/-- a tuple stands while a list is changed -/
theorem sqt_set {K : PySem.W.Frag} {H : Hp} {p a : Addr} {ys xs : List V} {o : HO} (hp : H p = some (.lst ys)) (h : SqT K H a xs) : SqT K (upd H p o) a xs := by
  rcases h with (h | ⟨u, h⟩) | h
  · exact .inl (.inl ((upd_ne (ne_of h hp nofun)).trans h))
  · exact .inl (.inr ⟨u, (upd_ne (ne_of h hp nofun)).trans h⟩)
  · exact .inr h
theorem dp_mkpair {K : PySem.W.Frag} {H : Hp} {a : Addr} {s : Int × Int} (h : SqT K H a [.int s.1, .int s.2]) : Dp K H (.ref a) (pairI s) := .tup h (.cons (.int _) (.cons (.int _) .nil))
theorem dp_tints {K : PySem.W.Frag} {H : Hp} {a : Addr} {ns : List Int} (h : SqT K H a (ns.map V.int)) : Dp K H (.ref a) (.tuple (ns.map .int)) := by
  refine .tup h ?_
  clear h
  induction ns with
  | nil => exact .nil
  | cons n r ih => exact .cons (.int n) ih
end My

namespace My
open PySem PySem.Spec PyProof.Rows L2
theorem dg_l {H : Hp} {m c l : Addr} {k : Int} (h : H m = some (.dK (dd c l k))) : DGet H m (.str "left") (some (.ref l)) := by
  have e := DGet.k (k := .inr "left") h
  rw [dd_l] at e
  exact e
theorem dg_c {H : Hp} {m c l : Addr} {k : Int} (h : H m = some (.dK (dd c l k))) : DGet H m (.str "cells") (some (.ref c)) := by
  have e := DGet.k (k := .inr "cells") h
  rw [dd_c] at e
  exact e
theorem dg_a {H : Hp} {m c l : Addr} {k : Int} (h : H m = some (.dK (dd c l k))) : DGet H m (.str "at") (some (.int k)) := by
  have e := DGet.k (k := .inr "at") h
  rw [dd_a] at e
  exact e
theorem dp_l {H : Hp} {m c l p : Addr} {k : Int} (h : H m = some (.dK (dd c l k))) : DPut H m (.str "left") (.ref p) (upd H m (.dK (dd c p k))) := by
  have e := DPut.k (k := .inr "left") (v := .ref p) h (by show 3 < sizeLine; decide)
  rw [dd_pl] at e
  exact e
theorem dp_a {H : Hp} {m c l : Addr} {k z : Int} (h : H m = some (.dK (dd c l k))) : DPut H m (.str "at") (.int z) (upd H m (.dK (dd c l z))) := by
  have e := DPut.k (k := .inr "at") (v := .int z) h (by show 3 < sizeLine; decide)
  rw [dd_pa] at e
  exact e
def pis (ns : List Int) : List PyData := ns.map .int
theorem dp_ints {K : PySem.W.Frag} {H : Hp} : ∀ ns : List Int, DpAll K H (ns.map V.int) (pis ns)
  | [] => .nil
  | n :: r => .cons (.int n) (dp_ints r)
theorem lay_ints : ∀ ns : List Int, PyData.canLayAll0 (pis ns) = true ∧ PyData.depthAll (pis ns) = 0
  | [] => ⟨rfl, rfl⟩
  | n :: r => by
    obtain ⟨h1, h2⟩ := lay_ints r
    exact ⟨by show ((PyData.int n).canLay0 && PyData.canLayAll0 (pis r)) = true; rw [h1]; rfl, by show max 0 (PyData.depthAll (pis r)) = 0; rw [h2]; rfl⟩
theorem shaped_ints (ns : List Int) : SeqAt.shaped (.list (pis ns)) = true := by
  obtain ⟨h1, h2⟩ := lay_ints ns
  show (PyData.canLayAll0 (pis ns) && decide (PyData.depthAll (pis ns) + 1 ≤ 64)) = true
  rw [h1, h2]
  rfl
theorem eqv_nil (ns : List Int) : PyData.eqv (.list (pis ns)) (.list []) = ns.isEmpty := by
  cases ns <;> rfl
section
variable {P : Program} {w : World} {K : PySem.W.Frag} {mg : Str → Option Value} {base : Heap}
theorem ixN_nat {n j : Nat} (h : j < n) : ixN n (j : Int) = some j := by
  unfold ixN
  rw [if_pos (by omega), if_pos (by omega)]
  simp
def sp_law_next : Sp := fun vs H Q _ => ∃ (m c l : Addr) (n : Nat) (many : Int), vs = [.ref m, .int many] ∧ 0 < many ∧ many < 2 ^ 100 ∧ Dr H m c l (n + 1) ∧
  ∀ (r : Int) (l' : Addr) (H' : Hp), 0 ≤ r → r < many → Kp m l H l' H' → Dr H' m c l' n → Q (.int r) H'
theorem ok_law_next (T : Txt K mg) : FnOk P w K mg base CX0 2 T.f__law_next T.d__law_next ["m", "many"] sp_law_next := by
  refine T.F__law_next.ok sc_law_next (fun vs H Q E h => ?_) (fun cdv A outer s H vs Q E hr h => ?_)
  · obtain ⟨m, c, l, n, many, rfl, _⟩ := h
    rfl
  · obtain ⟨m, c, l, n, many, rfl, p1, p2, D, q⟩ := h
    have hu := hu_of hr
    refine ⟨_,
(pss_cons (ps_while PassesOwn.never (PW.pt (pw_and (pt_cmpR (op_neD hr.units) (pe_dget hu (pv 0) pe_str (fun _ _ => rfl)) (pe_lst pa_nil) (nomark _)) (pw_and1 (pt_cmpR op_eq (pe_ix ix_list (pe_dget hu (pv 0) pe_str (fun _ _ => rfl)) pe_int (fun _ _ => rfl)) pe_int (nomark _))))) (pss_one (ps_dput hu (pv 0) pe_str (pe_slice sl_list (pe_dget hu (pv 0) pe_str (fun _ _ => rfl)) (po_some pe_int) po_none) rfl)))
      (pss_cons (ps_if (pt_cmpR (op_neD hr.units) (pe_dget hu (pv 0) pe_str (fun _ _ => rfl)) (pe_lst pa_nil) (nomark _)) (pss_cons (ps_set (i := 2) sc_law_next.nd rfl (Or.inl rfl) (pe_callTy call_int1 (by rfl) T.z_int (by decide +kernel) (pa_cons (pe_ix ix_list (pe_dget hu (pv 0) pe_str (fun _ _ => rfl)) pe_int (fun _ _ => rfl)) pa_nil)))
      (pss_cons (ps_asg (pe_op op_fdivW (pv 2) (pv 1)) (pg_sub (pe_dget hu (pv 0) pe_str (fun _ _ => rfl)) pe_int set_list))
      (pss_one (ps_ret (pe_op op_modN (pv 2) (pv 1)))))) pss_nil)
      (pss_cons (ps_set (i := 3) sc_law_next.nd rfl (Or.inl rfl) (pe_op op_add (pe_dget hu (pv 0) pe_str (fun _ _ => rfl)) pe_int))
      (pss_cons (ps_dput hu (pv 0) pe_str (pv 3) rfl)
      (pss_cons (ps_set (i := 4) sc_law_next.nd rfl (Or.inl rfl) (pe_ifExp (pt_cmpR (op_neD hr.units) (pe_dget hu (pv 0) pe_str (fun _ _ => rfl)) (pe_lst pa_nil) (nomark _)) (pe_ix ix_list (pe_dget hu (pv 0) pe_str (fun _ _ => rfl)) (pe_op op_modN (pe_callTy call_int1 (by rfl) T.z_int (by decide +kernel) (pa_cons (pv 3) pa_nil)) (pe_callB (call_len_seq) (by rfl) T.z_len (by decide +kernel) (pa_cons (pe_dget hu (pv 0) pe_str (fun _ _ => rfl)) pa_nil))) (fun _ _ => rfl)) pe_int))
      (pss_cons (ps_set (i := 5) sc_law_next.nd rfl (Or.inl rfl) (pe_op op_mul (pe_callTy call_int1 (by rfl) T.z_int (by decide +kernel) (pa_cons (pe_op op_add (pe_op op_add (pe_op op_modN (pe_callTy call_int1 (by rfl) T.z_int (by decide +kernel) (pa_cons (pv 4) pa_nil)) pe_int) (pe_op op_mul pe_int (pv 3))) (pe_op op_mul (pe_op op_mul pe_int (pv 3)) (pv 3))) pa_nil)) pe_int))
      (pss_cons (ps_set (i := 5) sc_law_next.nd rfl (Or.inl rfl) (pe_op op_mul (pe_callTy call_int1 (by rfl) T.z_int (by decide +kernel) (pa_cons (pe_op op_add (pe_op op_modN (pe_callTy call_int1 (by rfl) T.z_int (by decide +kernel) (pa_cons (pv 5) pa_nil)) pe_int) (pe_op op_mul pe_int (pv 3))) pa_nil)) pe_int))
      (pss_one (ps_ret (pe_op op_modN (pe_callTy call_int1 (by rfl) T.z_int (by decide +kernel) (pa_cons (pe_op op_fdivN (pe_op op_modN (pe_callTy call_int1 (by rfl) T.z_int (by decide +kernel) (pa_cons (pv 5) pa_nil)) pe_int) pe_int) pa_nil)) (pv 1)))))))))))
, ?_⟩
    refine st_tail (fun σ H' => ∃ (l' : Addr), σ = [some (.ref m), some (.int many), none, none, none, none] ∧ Kp m l H l' H' ∧ Dr H' m c l' (n + 1)) ?_ fun tail => ?_
    · rintro σ H1 ⟨l1, rfl, kp, D1⟩
      obtain ⟨cs, ls, k, h1, h2, h3, ncl, lc, ll, pos, k0, kn⟩ := D1.ex
      have nml : m ≠ l1 := ne_of h1 h3 nofun
      have nmc : m ≠ c := ne_of h1 h2 nofun
      -- if m['left'] != []
      refine ⟨_, rfl, m, .ref l1, rfl, dg_l h1, Nat.zero_le _, fun p hp => ?_⟩
      have g1 := same_new (o := .lst []) hp _ _ h1
      have g2 := same_new (o := .lst []) hp _ _ h2
      have g3 := same_new (o := .lst []) hp _ _ h3
      refine ⟨.list (pis ls), .list [], .lst (SqL.of g3) (dp_ints ls), .lst (SqL.of upd_same) .nil, shaped_ints ls, by rfl, _, rfl, ?_⟩
      rw [eqv_nil]
      have kp2 : Kp m l H l1 (upd H1 p (.lst [])) := kp.trans (Kp.new hp)
      have D2 : Dr (upd H1 p (.lst [])) m c l1 (n + 1) := D1.new hp
      cases ls with
      | cons x r =>
        refine iteT ?_
        have x0 : 0 ≤ x := pos x List.mem_cons_self
        refine ⟨_, rfl, m, .ref l1, rfl, dg_l g1, l1, _, 0, .int x, rfl, rfl, SqL.of g3, atI_nat (j := 0) rfl, .inl ⟨x, rfl, ?_⟩⟩
        -- m['left'][0] = rest // many
        refine ⟨_, rfl, _, rfl, x, many, rfl, rfl, wide_div (b := 100) p1 (by omega) (by decide) (by decide), _, rfl, m, .ref l1, rfl, dg_l g1, l1, _, 0, 0, rfl, rfl, g3, ixN_nat (j := 0) (by simp), ?_⟩
        refine ⟨_, rfl, _, rfl, x, many, rfl, rfl, by omega, ?_⟩
        show Q (.int (x.fmod many)) (upd (upd H1 p (.lst [])) l1 (.lst (((x / many) :: r).map V.int)))
        rw [Int.fmod_eq_emod_of_nonneg x (by omega)]
        refine q _ l1 _ (Int.emod_nonneg _ (by omega)) (Int.emod_lt_of_pos _ p1) ⟨fun b o hb n1 n2 => ?_, kp2.nw, fun b hb => ?_⟩ ⟨cs, (x / many) :: r, k, ?_, ?_, ?_, ncl, lc, ll, ?_, k0, by omega⟩
        · have e := kp2.st b o hb n1 n2
          rw [upd_ne (kp2.off hb n2)]
          exact e
        · refine kp2.dm b ?_
          unfold upd at hb ⊢
          split at hb
          · cases hb
          · exact hb
        · rw [upd_ne nml]; exact g1
        · rw [upd_ne ncl]; exact g2
        · exact upd_same
        · intro y hy
          rcases List.mem_cons.mp hy with e | e
          · rw [e]; exact Int.ediv_nonneg x0 (by omega)
          · exact pos y (List.mem_cons_of_mem _ e)
      | nil =>
        refine iteF ?_
        refine ⟨_, rfl, m, .int k, rfl, dg_a g1, _, _, rfl, rfl, _, rfl, _, rfl, m, _, rfl, dp_a g1, ?_⟩
        have a1 : (upd (upd H1 p (.lst [])) m (.dK (dd c l1 (k + 1)))) m = some (.dK (dd c l1 (k + 1))) := upd_same
        have a2 := (upd_ne (H := upd H1 p (.lst [])) (o := .dK (dd c l1 (k + 1))) nmc.symm).trans g2
        have a3 := (upd_ne (H := upd H1 p (.lst [])) (o := .dK (dd c l1 (k + 1))) nml.symm).trans g3
        have kp3 : Kp m l H l1 (upd (upd H1 p (.lst [])) m (.dK (dd c l1 (k + 1)))) := ⟨fun b o hb n1 n2 => (upd_ne n1).trans (kp2.st b o hb n1 n2), kp2.nw, fun b hb => kp2.dm b (by
          unfold upd at hb ⊢
          split at hb
          · cases hb
          · exact hb)⟩
        have D3 : Dr (upd (upd H1 p (.lst [])) m (.dK (dd c l1 (k + 1)))) m c l1 n := ⟨cs, [], k + 1, a1, a2, a3, ncl, lc, ll, pos, by omega, by omega⟩
        generalize upd (upd H1 p (.lst [])) m (.dK (dd c l1 (k + 1))) = H3 at a1 a2 a3 kp3 D3
        -- cell
        dsimp only
        refine st_tail (fun σ H' => ∃ (z : Int), σ = [some (.ref m), some (.int many), none, some (.int (k + 1)), some (.int z), none] ∧ Kp m l H l1 H' ∧ Dr H' m c l1 n) ?_ fun tail => ?_
        · rintro σ H4 ⟨z, rfl, kp4, D4⟩
          have kb : k + 1 ≤ 1000000 := by omega
          refine ⟨_, rfl, .inl ⟨z, rfl, _, _, rfl, rfl, (show (2147483629 : Int) ≠ 0 by decide), _, rfl, _, _, rfl, rfl, .inl ⟨by decide, by decide⟩, _, _, rfl, rfl, _, rfl, _, _, rfl, rfl, .inl ⟨by decide, by decide⟩,
            _, rfl, _, _, rfl, rfl, .inl ⟨by show -(2 ^ 64) < 19 * (k + 1); omega, by show 19 * (k + 1) < 2 ^ 64; omega⟩, _, _, rfl, rfl, .inl ⟨_, rfl, _, _, rfl, rfl, .inr ⟨by decide, by decide⟩, ?_⟩⟩⟩
          refine ⟨_, rfl, .inl ⟨_, rfl, _, _, rfl, rfl, (show (2147483647 : Int) ≠ 0 by decide), _, rfl, _, _, rfl, rfl, .inl ⟨by decide, by decide⟩, _, _, rfl, rfl, .inl ⟨_, rfl, _, _, rfl, rfl, .inr ⟨by decide, by decide⟩, ?_⟩⟩⟩
          refine ⟨_, rfl, .inl ⟨_, rfl, _, _, rfl, rfl, (show (2147483587 : Int) ≠ 0 by decide), _, _, rfl, rfl, ⟨by decide, by decide⟩, .inl ⟨_, rfl, _, rfl, _, _, rfl, rfl, by omega, ?_⟩⟩⟩
          refine q _ l1 _ ?_ ?_ kp4 D4
          · rw [Int.fmod_eq_emod_of_nonneg _ (by omega)]
            exact Int.emod_nonneg _ (by omega)
          · rw [Int.fmod_eq_emod_of_nonneg _ (by omega)]
            exact Int.emod_lt_of_pos _ p1
        refine ⟨_, rfl, m, .ref c, rfl, dg_c a1, Nat.zero_le _, fun p' hp' => ?_⟩
        have b1 := same_new (o := .lst []) hp' _ _ a1
        have b2 := same_new (o := .lst []) hp' _ _ a2
        refine ⟨.list (pis cs), .list [], .lst (SqL.of b2) (dp_ints cs), .lst (SqL.of upd_same) .nil, shaped_ints cs, by rfl, _, rfl, ?_⟩
        rw [eqv_nil]
        have kp4 : Kp m l H l1 (upd H3 p' (.lst [])) := kp3.trans (Kp.new hp')
        have D4 : Dr (upd H3 p' (.lst [])) m c l1 n := D3.new hp'
        cases cs with
        | nil =>
          refine iteF ?_
          exact tail _ _ ⟨3, rfl, kp4, D4⟩
        | cons y r =>
          refine iteT ?_
          obtain ⟨j, z, hj⟩ : ∃ (j : Nat) (z : Int), (k + 1).fmod (((y :: r).map V.int).length : Int) = (j : Int) ∧ ((y :: r).map V.int)[j]? = some (.int z) := by
            have hl : (0 : Int) < (((y :: r).map V.int).length : Int) := by
              show (0 : Int) < (((r.map V.int).length + 1 : Nat) : Int)
              omega
            rw [Int.fmod_eq_emod_of_nonneg _ (by omega)]
            have e1 := Int.emod_nonneg (k + 1) (b := (((y :: r).map V.int).length : Int)) (by omega)
            have e2 := Int.emod_lt_of_pos (k + 1) hl
            have hj : ((k + 1) % (((y :: r).map V.int).length : Int)).toNat < (y :: r).length := by
              have : ((y :: r).map V.int).length = (y :: r).length := List.length_map ..
              omega
            refine ⟨((k + 1) % (((y :: r).map V.int).length : Int)).toNat, (y :: r)[((k + 1) % (((y :: r).map V.int).length : Int)).toNat], by omega, ?_⟩
            rw [List.getElem?_map, List.getElem?_eq_getElem hj]
            rfl
          refine ⟨_, rfl, m, .ref c, rfl, dg_c b1, _, rfl, .inl ⟨_, rfl, _, rfl, m, .ref c, rfl, dg_c b1, c, _, rfl, .inl (SqL.of b2), _, _, rfl, rfl, by show (((y :: r).map V.int).length : Int) ≠ 0; simp; omega, c, _, _, .int z, rfl, rfl, SqL.of b2, ?_, ?_⟩⟩
          · show atI _ ((k + 1).fmod (((y :: r).map V.int).length : Int)) = some _
            rw [hj.1]
            exact atI_nat hj.2
          exact tail _ _ ⟨z, rfl, kp4, D4⟩
    -- the loop
    refine ⟨fun cnt σ H' => ∃ (l' : Addr) (cs ls : List Int) (k : Int), σ = [some (.ref m), some (.int many), none, none, none, none] ∧ Kp m l H l' H' ∧ ls.length = cnt ∧
      H' m = some (.dK (dd c l' k)) ∧ H' c = some (.lst (cs.map V.int)) ∧ H' l' = some (.lst (ls.map V.int)) ∧ c ≠ l' ∧
      cs.length ≤ 63 ∧ ls.length ≤ 63 ∧ (∀ x ∈ ls, 0 ≤ x) ∧ 0 ≤ k ∧ k + ((n + 1 : Nat) : Int) ≤ 1000000, ?_, ?_⟩
    · obtain ⟨cs, ls, k, r⟩ := D.ex
      exact ⟨ls.length, l, cs, ls, k, rfl, Kp.refl m l H, rfl, r⟩
    rintro cnt σ H1 ⟨l1, cs, ls, k, rfl, kp, hcnt, h1, h2, h3, ncl, lc, ll, pos, k0, kn⟩
    have nml : m ≠ l1 := ne_of h1 h3 nofun
    have nmc : m ≠ c := ne_of h1 h2 nofun
    refine ⟨_, rfl, m, .ref l1, rfl, dg_l h1, Nat.zero_le _, fun p hp => ?_⟩
    have g1 := same_new (o := .lst []) hp _ _ h1
    have g2 := same_new (o := .lst []) hp _ _ h2
    have g3 := same_new (o := .lst []) hp _ _ h3
    have kp2 : Kp m l H l1 (upd H1 p (.lst [])) := kp.trans (Kp.new hp)
    have D2 : Dr (upd H1 p (.lst [])) m c l1 (n + 1) := ⟨cs, ls, k, g1, g2, g3, ncl, lc, ll, pos, k0, kn⟩
    refine ⟨.list (pis ls), .list [], .lst (SqL.of g3) (dp_ints ls), .lst (SqL.of upd_same) .nil, shaped_ints ls, by rfl, _, rfl, ?_⟩
    rw [eqv_nil]
    cases ls with
    | nil =>
      refine iteF ?_
      refine iteF ?_
      exact tail _ _ ⟨l1, rfl, kp2, D2⟩
    | cons x r =>
      refine iteT ?_
      refine ⟨_, rfl, m, .ref l1, rfl, dg_l g1, l1, _, 0, .int x, rfl, rfl, SqL.of g3, atI_nat (j := 0) rfl, rfl, _, rfl, ?_⟩
      refine ite2 (fun e => ?_) (fun e => tail _ _ ⟨l1, rfl, kp2, D2⟩)
      generalize upd H1 p (.lst []) = H3 at g1 g2 g3 kp2 D2
      refine ⟨_, fun σ' H' hN => hN, ?_⟩
      refine ⟨_, rfl, m, .ref l1, rfl, dg_l g1, 1, rfl, l1, _, rfl, SqL.of g3, fun p2 hp2 => ⟨_, rfl, m, _, rfl, dp_l (same_new hp2 _ _ g1), ?_⟩⟩
      have np1 : p2 ≠ m := (ne_of_none g1 hp2).symm
      have np2 : p2 ≠ c := (ne_of_none g2 hp2).symm
      refine ⟨r.length, by rw [← hcnt]; simp, p2, cs, r, k, rfl, ⟨fun b o hb q1 q2 => ?_, ?_, fun b hb => ?_⟩, rfl, upd_same, (upd_ne nmc.symm).trans ((upd_ne np2.symm).trans g2), (upd_ne np1).trans ?_, np2.symm, lc, by simp at ll ⊢; omega, fun y hy => pos y (List.mem_cons_of_mem _ hy), k0, kn⟩
      · have e := kp2.st b o hb q1 q2
        rw [upd_ne q1, upd_ne (ne_of_none e hp2)]
        exact e
      · exact .inr (kp2.dm _ hp2)
      · refine kp2.dm b ?_
        unfold upd at hb
        split at hb
        · cases hb
        · split at hb
          · cases hb
          · exact hb
      · rw [upd_same]
        unfold cutV
        rw [HT.sIx_none, show HT.sIx ((x :: r).map V.int).length 0 (some 1) = min 1 ((x :: r).map V.int).length from HT.sIx_nat _ 0 1, show min 1 ((x :: r).map V.int).length = 1 by simp]
        show some (HO.lst (List.take (((x :: r).map V.int).length - 1) (r.map V.int))) = _
        rw [List.take_of_length_le (by simp)]
def sp_law_begun (K : PySem.W.Frag) : Sp := fun vs H Q _ => ∃ (a : Addr) (ns : List Int), vs = [.ref a] ∧ SqL K H a (ns.map V.int) ∧ ns.length ≤ 63 ∧
  ∀ (m c l : Addr) (H' : Hp), Same H H' → H m = none → H c = none → H l = none → Dr H' m c l 900000 → Q (.ref m) H'
theorem ok_law_begun (T : Txt K mg) : FnOk P w K mg base CX0 2 T.f__law_begun T.d__law_begun ["script"] (sp_law_begun K) := by
  refine T.F__law_begun.ok sc_law_begun (fun vs H Q E h => ?_) (fun cdv A outer s H vs Q E hr h => ?_)
  · obtain ⟨a, ns, rfl, _⟩ := h
    rfl
  · obtain ⟨a, ns, rfl, hS, hl, q⟩ := h
    have hu := hu_of hr
    refine ⟨_,
(pss_one (ps_ret (pe_disp (pps_cons pe_str (pe_callTy call_list_of (by rfl) T.z_list (by decide +kernel) (pa_cons (pv 0) pa_nil)) (pps_cons pe_str (pe_lc (own := [("cell", 1)]) rfl sc_law_begun.nd (pi_list (pv 0)) (blkOk_by (own := [("cell", 1)]) (N := ["script", "cell"]) (sc := defScope s_law_begun) (by decide +kernel)) (fun _ _ _ _ _ => (pg_name (i := 1) sc_law_begun.nd rfl (Or.inl rfl))) (fun _ _ _ _ _ => pts_one (pt_cmpR op_ge (pv 1) (pe_op op_pow pe_int pe_int) (nomark _))) (fun _ _ _ _ _ => (pv 1))) (pps_cons pe_str pe_int pps_nil))) (by rfl) (by rfl) (fun z => by cases z) (by decide))))
, ?_⟩
    intro p hp
    have s1 : Same H (upd H p (.dK [])) := same_new hp
    refine ⟨.ref a, rfl, a, _, rfl, .inl (s1.seq hS), fun c hc => ?_⟩
    have s2 := s1.trans (same_new (o := .lst (ns.map V.int)) hc)
    have ncp : p ≠ c := fun e => by rw [← e, upd_same] at hc; cases hc
    have e1 : upd (upd H p (.dK [])) c (.lst (ns.map V.int)) p = some (.dK []) := (upd_ne ncp).trans upd_same
    have e2 : upd (upd H p (.dK [])) c (.lst (ns.map V.int)) c = some (.lst (ns.map V.int)) := upd_same
    have hc0 : H c = none := s1.free hc
    generalize upd (upd H p (.dK [])) c (.lst (ns.map V.int)) = H1 at s2 e1 e2
    refine ⟨.ref a, rfl, a, rfl, ⟨_, s2.seq hS⟩, fun l hD => ?_⟩
    have nlp : p ≠ l := ne_of_none e1 hD
    have nlc : c ≠ l := ne_of_none e2 hD
    have hl0 : H l = none := s2.free hD
    refine lc_list (K := K) (a := a) (xs := ns.map V.int) (fun i H' => ∃ ls : List Int, ls.length ≤ i ∧ (∀ x ∈ ls, 0 ≤ x) ∧ H' = upd H1 l (.lst (ls.map V.int))) ⟨[], by simp, by simp, rfl⟩ ?_ ?_ ?_
    · rintro i H' _ ⟨ls, _, _, rfl⟩
      exact (same_new hD).seq (s2.seq hS)
    · rintro i x H' hx ⟨ls, h1, h2, rfl⟩
      obtain ⟨z, rfl⟩ : ∃ z, x = V.int z := by
        rw [List.getElem?_map] at hx
        cases e : ns[i]? with
        | none => rw [e] at hx; cases hx
        | some z => rw [e] at hx; exact ⟨z, (Option.some.inj hx).symm⟩
      have hi : i < 63 := by
        have := (List.getElem?_eq_some_iff.mp hx).1
        rw [List.length_map] at this
        omega
      refine ⟨rfl, _, rfl, 10, 18, rfl, rfl, ⟨by decide, by decide, by decide⟩, z, 1000000000000000000, rfl, rfl, _, rfl, ?_⟩
      refine ite2 (fun e => ?_) (fun e => ⟨ls, by omega, h2, rfl⟩)
      refine ⟨.int z, rfl, _, upd_same, ?_, ls ++ [z], ?_, ?_, ?_⟩
      · rw [List.length_map]; exact small1000 (by omega)
      · simp; omega
      · intro y hy
        rcases List.mem_append.mp hy with k | k
        · exact h2 y k
        · rw [List.mem_singleton.mp k]
          have := of_decide_eq_true e
          omega
      · rw [upd_upd, List.map_append]
        rfl
    · rintro H' ⟨ls, h1, h2, rfl⟩
      refine ⟨(upd_ne nlp).trans e1, [(Sum.inr "cells", V.ref c), (Sum.inr "left", V.ref l), (Sum.inr "at", V.int 0)], rfl, by show 3 ≤ 15; decide, ?_⟩
      rw [dd_mk]
      refine q p c l _ (fun b o hb => ?_) hp hc0 hl0 ⟨ns, ls, 0, upd_same, ?_, ?_, nlc, hl, by rw [List.length_map] at h1; omega, h2, by decide, by decide⟩
      · rw [upd_ne (ne_of_none hb hp), upd_ne (ne_of_none hb hl0)]
        exact s2 _ _ hb
      · rw [upd_ne ncp.symm, upd_ne nlc]; exact e2
      · rw [upd_ne nlp.symm, upd_same]
end
end My

namespace My
open PySem PySem.Spec PyProof.Rows L2
theorem dpAll_app {K : PySem.W.Frag} {H : Hp} : ∀ {xs ys : List V} {ds es : List PyData}, DpAll K H xs ds → DpAll K H ys es → DpAll K H (xs ++ ys) (ds ++ es)
  | _, _, _, _, .nil, h => h
  | _, _, _, _, .cons a b, h => .cons a (dpAll_app b h)
theorem pairs_set {K : PySem.W.Frag} {H : Hp} {p : Addr} {zs : List V} {o : HO} (hp : H p = some (.lst zs)) : ∀ {ss : List (Int × Int)} {xs : List V}, DpAll K H xs (ss.map pairI) → DpAll K (upd H p o) xs (ss.map pairI)
  | [], _, h => by cases h; exact .nil
  | s :: r, _, h => by
    cases h with
    | cons a b =>
      obtain ⟨t, rfl, ht⟩ := dp_pair a
      exact .cons (dp_mkpair (sqt_set hp ht)) (pairs_set hp b)
/-! ### what stands through draws: tuples -/
def Tp : HO → Prop
  | .tup _ => True
  | .frz _ _ => True
  | _ => False
def Keep (H H' : Hp) : Prop := ∀ b o, H b = some o → Tp o → H' b = some o
theorem Keep.refl (H : Hp) : Keep H H := fun _ _ h _ => h
theorem Keep.trans {H H1 H2 : Hp} (a : Keep H H1) (b : Keep H1 H2) : Keep H H2 := fun c o h t => b c o (a c o h t) t
theorem keep_same {H H' : Hp} (s : Same H H') : Keep H H' := fun b o h _ => s b o h
theorem keep_set {H : Hp} {p : Addr} {ys : List V} {o : HO} (hp : H p = some (.lst ys)) : Keep H (upd H p o) := fun b u h t => by
  have nb : b ≠ p := fun e => by
    rw [e, hp] at h
    cases h
    exact t
  rw [upd_ne nb]
  exact h
theorem keep_draw {m c l l' n : Addr} {H H' : Hp} (k : Kp m l H l' H') (d : Dr H m c l n) : Keep H H' := fun b o h t => by
  obtain ⟨cs, ls, z, h1, h2, h3, r⟩ := d.ex
  refine k.st b o h (fun e => ?_) (fun e => ?_)
  · rw [e, h1] at h
    cases h
    exact t
  · rw [e, h3] at h
    cases h
    exact t
theorem Keep.tup {K : PySem.W.Frag} {H H' : Hp} {a : Addr} {xs : List V} (k : Keep H H') (h : SqT K H a xs) : SqT K H' a xs := by
  rcases h with (h | ⟨u, h⟩) | h
  · exact .inl (.inl (k _ _ h trivial))
  · exact .inl (.inr ⟨u, k _ _ h trivial⟩)
  · exact .inr h
mutual
def noL : PyData → Bool
  | .list _ => false
  | .tuple ds => noLs ds
  | _ => true
def noLs : List PyData → Bool
  | [] => true
  | d :: r => noL d && noLs r
end
mutual
theorem dp_keep {K : PySem.W.Frag} {H H' : Hp} (s : Keep H H') : ∀ (d : PyData) (v : V), noL d = true → Dp K H v d → Dp K H' v d
  | .none, _, _, h => by cases h; exact .non
  | .bool _, _, _, h => by cases h; exact .bl _
  | .int _, _, _, h => by cases h; exact .int _
  | .str _, _, _, h => by cases h; exact .str _
  | .list ds, _, n, h => by cases n
  | .tuple ds, _, n, h => by
    cases h with
    | tup a b => exact .tup (s.tup a) (dpAll_keep s ds _ n b)
  | .dict _, _, _, h => by cases h
theorem dpAll_keep {K : PySem.W.Frag} {H H' : Hp} (s : Keep H H') : ∀ (ds : List PyData) (vs : List V), noLs ds = true → DpAll K H vs ds → DpAll K H' vs ds
  | [], _, _, h => by cases h; exact .nil
  | d :: ds, _, n, h => by
    cases h with
    | cons a b =>
      obtain ⟨n1, n2⟩ := Bool.and_eq_true_iff.mp (show (noL d && noLs ds) = true from n)
      exact .cons (dp_keep s d _ n1 a) (dpAll_keep s ds _ n2 b)
end
theorem noLs_all : ∀ {ds : List PyData}, (∀ d ∈ ds, noL d = true) → noLs ds = true
  | [], _ => rfl
  | d :: r, h => by
    show (noL d && noLs r) = true
    rw [h d List.mem_cons_self, noLs_all fun e he => h e (List.mem_cons_of_mem _ he)]
    rfl
theorem noL_pair (p : Int × Int) : noL (pairI p) = true := rfl
theorem noLs_pairs (ps : List (Int × Int)) : noLs (ps.map pairI) = true := noLs_all fun d hd => by
  obtain ⟨p, _, rfl⟩ := List.mem_map.mp hd
  rfl
theorem noLs_ints (ns : List Int) : noLs (ns.map .int) = true := noLs_all fun d hd => by
  obtain ⟨p, _, rfl⟩ := List.mem_map.mp hd
  rfl
theorem noL_row (r : List Nat) : noL (rowI r) = true := noLs_all fun d hd => by
  obtain ⟨p, _, rfl⟩ := List.mem_map.mp hd
  rfl
theorem noL_cod (C : Cod) : noL C.dat = true := by
  show (true && (true && (noLs (C.steps.map .int) && (noLs (C.moves.map pairI) && (true && true))))) = true
  rw [noLs_ints, noLs_pairs]
  rfl
/-- an own list through a draw -/
theorem Kp.own {m l l' : Addr} {H H' : Hp} (k : Kp m l H l' H') {p : Addr} {o : HO} (h : H p = some o) (n1 : p ≠ m) (n2 : p ≠ l) : H' p = some o ∧ p ≠ l' := ⟨k.st p o h n1 n2, k.off h n2⟩
/-- a change of an own list: for what stood ahead of it -/
theorem Kp.set {m l l' : Addr} {H H' : Hp} (k : Kp m l H l' H') {p : Addr} {o : HO} (h : H p = none) : Kp m l H l' (upd H' p o) := by
  refine ⟨fun b u hb n1 n2 => ?_, k.nw, fun b hb => ?_⟩
  · rw [upd_ne (ne_of_none hb h)]
    exact k.st b u hb n1 n2
  · unfold upd at hb
    split at hb
    · cases hb
    · exact k.dm b hb
/-- a list of one's own, apart from the drawer -/
structure Own (H : Hp) (m c l p : Addr) (xs : List V) : Prop where
  st : H p = some (.lst xs)
  nm : p ≠ m
  nc : p ≠ c
  nl : p ≠ l
theorem own_mk {H : Hp} {m c l p n : Nat} {xs : List V} (D : Dr H m c l n) (hp : H p = none) : Own (upd H p (.lst xs)) m c l p xs := by
  obtain ⟨cs, ls, z, e1, e2, e3, _⟩ := D.ex
  exact ⟨upd_same, (ne_of_none e1 hp).symm, (ne_of_none e2 hp).symm, (ne_of_none e3 hp).symm⟩
theorem Own.kp {H H' : Hp} {m c l l' p : Addr} {xs : List V} (o : Own H m c l p xs) (k : Kp m l H l' H') : Own H' m c l' p xs := ⟨k.st p _ o.st o.nm o.nl, o.nm, o.nc, k.off o.st o.nl⟩
theorem Own.same {H H' : Hp} {m c l p : Addr} {xs : List V} (o : Own H m c l p xs) (s : Same H H') : Own H' m c l p xs := ⟨s _ _ o.st, o.nm, o.nc, o.nl⟩
theorem Own.set {H : Hp} {m c l p q : Addr} {xs : List V} {u : HO} (o : Own H m c l p xs) (h : p ≠ q) : Own (upd H q u) m c l p xs := ⟨(upd_ne h).trans o.st, o.nm, o.nc, o.nl⟩
theorem Own.put {H : Hp} {m c l p : Addr} {xs ys : List V} (o : Own H m c l p xs) : Own (upd H p (.lst ys)) m c l p ys := ⟨upd_same, o.nm, o.nc, o.nl⟩
theorem Dr.put {H : Hp} {m c l n p : Nat} {xs ys : List V} (D : Dr H m c l n) (o : Own H m c l p xs) : Dr (upd H p (.lst ys)) m c l n := D.set o.nm o.nc o.nl
theorem Own.ne {H : Hp} {m c l p q : Addr} {xs : List V} (o : Own H m c l p xs) (h : H q = none) : p ≠ q := ne_of_none o.st h
theorem at3 {a b c : V} {g : Int} (h0 : 0 ≤ g) (h1 : g < 3) : ∃ v, atI [a, b, c] g = some v ∧ (v = a ∨ v = b ∨ v = c) := by
  have hg : g = 0 ∨ g = 1 ∨ g = 2 := by omega
  rcases hg with e | e | e <;> subst e
  · exact ⟨a, atI_nat (j := 0) rfl, .inl rfl⟩
  · exact ⟨b, atI_nat (j := 1) rfl, .inr (.inl rfl)⟩
  · exact ⟨c, atI_nat (j := 2) rfl, .inr (.inr rfl)⟩
theorem at4 {a b c d : V} {g : Int} (h0 : 0 ≤ g) (h1 : g < 4) : ∃ v, atI [a, b, c, d] g = some v ∧ (v = a ∨ v = b ∨ v = c ∨ v = d) := by
  have hg : g = 0 ∨ g = 1 ∨ g = 2 ∨ g = 3 := by omega
  rcases hg with e | e | e | e <;> subst e
  · exact ⟨a, atI_nat (j := 0) rfl, .inl rfl⟩
  · exact ⟨b, atI_nat (j := 1) rfl, .inr (.inl rfl)⟩
  · exact ⟨c, atI_nat (j := 2) rfl, .inr (.inr (.inl rfl))⟩
  · exact ⟨d, atI_nat (j := 3) rfl, .inr (.inr (.inr rfl))⟩
section
variable {P : Program} {w : World} {K : PySem.W.Frag} {mg : Str → Option Value} {base : Heap}
theorem yes_turn {te : TE} {σ : L2.St} {H : Hp} {Q : VK} {R : Hp → Prop} (h : te σ H Q) : tYes σ H fun b H3 => if b = true then te σ H3 Q else R H3 := by
  show if true = true then te σ H Q else R H
  rw [if_pos rfl]
  exact h
/-- n draws at most, behind which z stands for something of which G holds -/
def spDraw (args : Addr → List V → Prop) (n : Nat) (G : Hp → V → Prop) : Sp := fun vs H Q _ => ∃ (m c l : Addr) (k : Nat), args m vs ∧ Dr H m c l (k + n) ∧
  ∀ z l' H', Kp m l H l' H' → Dr H' m c l' k → G H' z → Q z H'
/-- what a drawn coder is like -/
structure Small (C : Cod) (wide places codes : Int) : Prop where
  lo : -wide ≤ C.low ∧ C.low ≤ 0
  hi : 0 ≤ C.high ∧ C.high ≤ wide
  st : 1 ≤ C.steps.length ∧ (C.steps.length : Int) ≤ places
  ss : ∀ s ∈ C.steps, 1 ≤ s ∧ s ≤ 2 * wide + 2
  mv : 2 ≤ C.moves.length ∧ (C.moves.length : Int) ≤ codes
  mm : ∀ p ∈ C.moves, (-16 ≤ p.1 ∧ p.1 ≤ 16) ∧ (-2 ≤ p.2 ∧ p.2 ≤ 2)
  fd : C.fade = 0 ∨ (2 ≤ C.fade ∧ C.fade ≤ 5)
theorem Small.ok {C : Cod} {wide places codes : Int} (h : Small C wide places codes) (h1 : wide ≤ 4000) (h2 : places ≤ 16) (h3 : codes ≤ 16) : C.Ok := by
  obtain ⟨⟨a1, a2⟩, ⟨b1, b2⟩, ⟨c1, c2⟩, d, ⟨e1, e2⟩, f, g⟩ := h
  refine ⟨by omega, a2, b1, by omega, c1, by omega, fun s hs => ?_, e1, by omega, fun p hp => ?_, by omega⟩
  · have := d s hs
    omega
  · have := f p hp
    omega
def sp_law_coder (K : PySem.W.Frag) : Sp := fun vs H Q _ => ∃ (m c l : Addr) (k : Nat) (wide places codes : Int), vs = [.ref m, .int wide, .int places, .int codes] ∧ (1 ≤ wide ∧ wide ≤ 4000) ∧ (1 ≤ places ∧ places ≤ 16) ∧ (2 ≤ codes ∧ codes ≤ 16) ∧
  Dr H m c l (k + 60) ∧ ∀ z (C : Cod) l' H', Kp m l H l' H' → Dr H' m c l' k → Small C wide places codes → Dp K H' z C.dat → Q z H'
set_option maxHeartbeats 4000000 in
theorem ok_law_coder (T : Txt K mg) : FnOk P w K mg base CX0 3 T.f__law_coder T.d__law_coder ["m", "wide", "places", "codes"] (sp_law_coder K) := by
  refine T.F__law_coder.ok sc_law_coder (fun vs H Q E h => ?_) (fun cdv A outer s H vs Q E hr h => ?_)
  · obtain ⟨m, c, l, k, wide, places, codes, rfl, _⟩ := h
    rfl
  · obtain ⟨m, c, l, k, wide, places, codes, rfl, ⟨w1, w2⟩, ⟨p1, p2⟩, ⟨c1, c2⟩, D0, q⟩ := h
    refine ⟨_,
(pss_cons (ps_par (i := 4) (j := 5) (by rfl) sc_law_coder.nd rfl rfl (by decide) rfl rfl (pa_cons (pe_op op_sub pe_int (pe_call (ok_law_next T) (hr.mono (by decide)) (by rfl) T.g__law_next T.F__law_next.kp T.b__law_next .nil pass0 (pa_cons (pv 0) (pa_cons (pe_op op_add (pv 1) pe_int) pa_nil)))) (pa_cons (pe_call (ok_law_next T) (hr.mono (by decide)) (by rfl) T.g__law_next T.F__law_next.kp T.b__law_next .nil pass0 (pa_cons (pv 0) (pa_cons (pe_op op_add (pv 1) pe_int) pa_nil))) pa_nil)) (by rfl))
      (pss_cons (ps_setLc (i := 7) (own := [("k", 6)]) rfl sc_law_coder.nd rfl rfl (sw_true rfl rfl rfl (by decide +kernel)) (pi_range1 (by rfl) T.z_range (pa_cons (pe_op op_add pe_int (pe_call (ok_law_next T) (hr.mono (by decide)) (by rfl) T.g__law_next T.F__law_next.kp T.b__law_next .nil pass0 (pa_cons (pv 0) (pa_cons (pv 2) pa_nil)))) pa_nil)) (blkOk_by (own := [("k", 6)]) (N := ["m", "wide", "places", "codes", "low", "high", "k", "steps", "moves", "fade"]) (sc := defScope s_law_coder) (by decide +kernel)) (fun _ _ _ _ _ => (pg_name (i := 6) sc_law_coder.nd rfl (Or.inl rfl))) (fun _ _ _ _ _ => pts_nil) (fun _ _ _ _ _ => (pe_op op_add pe_int (pe_call (ok_law_next T) (hr.mono (by decide)) (by rfl) T.g__law_next T.F__law_next.kp T.b__law_next .nil pass0 (pa_cons (pv 0) (pa_cons (pe_op op_add (pe_op op_mul pe_int (pv 1)) pe_int) pa_nil))))))
      (pss_cons (ps_set (i := 8) sc_law_coder.nd rfl (Or.inl rfl) (pe_lst pa_nil))
      (pss_cons (ps_for PassesOwn.never rfl (pi_range1 (by rfl) T.z_range (pa_cons (pe_op op_add pe_int (pe_call (ok_law_next T) (hr.mono (by decide)) (by rfl) T.g__law_next T.F__law_next.kp T.b__law_next .nil pass0 (pa_cons (pv 0) (pa_cons (pe_op op_sub (pv 3) pe_int) pa_nil)))) pa_nil)) (pg_name (i := 6) sc_law_coder.nd rfl (Or.inl rfl)) (pss_one (ps_expr (pe_bm PySem.F.plainAttrs_list PySem.F.slot_list_append PySem.F.type_list_append mt_append (pv 8) (pa_cons (pe_tup (pa_cons (pe_op op_sub (pe_call (ok_law_next T) (hr.mono (by decide)) (by rfl) T.g__law_next T.F__law_next.kp T.b__law_next .nil pass0 (pa_cons (pv 0) (pa_cons pe_int pa_nil))) pe_int) (pa_cons (pe_op op_sub (pe_call (ok_law_next T) (hr.mono (by decide)) (by rfl) T.g__law_next T.F__law_next.kp T.b__law_next .nil pass0 (pa_cons (pv 0) (pa_cons pe_int pa_nil))) pe_int) pa_nil))) pa_nil)))))
      (pss_cons (ps_set (i := 9) sc_law_coder.nd rfl (Or.inl rfl) (pe_ix ix_list (pe_lst (pa_cons pe_int (pa_cons pe_int (pa_cons pe_int (pa_cons (pe_op op_add pe_int (pe_call (ok_law_next T) (hr.mono (by decide)) (by rfl) T.g__law_next T.F__law_next.kp T.b__law_next .nil pass0 (pa_cons (pv 0) (pa_cons pe_int pa_nil)))) pa_nil))))) (pe_call (ok_law_next T) (hr.mono (by decide)) (by rfl) T.g__law_next T.F__law_next.kp T.b__law_next .nil pass0 (pa_cons (pv 0) (pa_cons pe_int pa_nil))) (fun _ _ => rfl)))
      (pss_one (ps_ret (pe_tup (pa_cons (pv 4) (pa_cons (pv 5) (pa_cons (pe_callTy call_tuple_of (by rfl) T.z_tuple (by decide +kernel) (pa_cons (pv 7) pa_nil)) (pa_cons (pe_callTy call_tuple_of (by rfl) T.z_tuple (by decide +kernel) (pa_cons (pv 8) pa_nil)) (pa_cons (pv 9) pa_nil)))))))))))))
, ?_⟩
    -- low, high
    refine ⟨_, rfl, _, rfl, _, _, rfl, rfl, m, c, l, k + 59, wide + 1, rfl, by omega, by omega, D0, fun a l1 H1 a0 a1 kp1 D1 => ⟨0, a, rfl, rfl, ?_⟩⟩
    refine ⟨_, rfl, _, rfl, _, _, rfl, rfl, m, c, l1, k + 58, wide + 1, rfl, by omega, by omega, D1, fun b l2 H2 b0 b1 kp2 D2 => ⟨_, _, rfl, ?_⟩⟩
    have kp12 := kp1.trans kp2
    -- steps
    refine ⟨_, rfl, _, rfl, m, c, l2, k + 57, places, rfl, by omega, by omega, D2, fun np l3 H3 n0 n1 kp3 D3 => ⟨1, np, rfl, rfl, _, rfl, by omega, by omega, fun S hS => ?_⟩⟩
    have kp13 := kp12.trans kp3
    obtain ⟨cs3, ls3, z3, e31, e32, e33, _⟩ := D3.ex
    refine lc_range (lo := 0) (n := (1 + np).toNat) (fun i H' => ∃ (l' : Addr) (ss : List Int), H' S = some (.lst (ss.map V.int)) ∧ ss.length = i ∧ (∀ s ∈ ss, 1 ≤ s ∧ s ≤ 2 * wide + 2) ∧ Kp m l3 H3 l' H' ∧ Dr H' m c l' (k + 57 - i) ∧ S ≠ m ∧ S ≠ c ∧ S ≠ l')
      ⟨l3, [], upd_same, rfl, by simp, Kp.new hS, D3.new hS, (ne_of_none e31 hS).symm, (ne_of_none e32 hS).symm, (ne_of_none e33 hS).symm⟩ ?_ ?_
    · rintro i H' hi ⟨l', ss, hL, hlen, hss, kp, D, nm, nc, nl⟩
      have hi' : i < 17 := by omega
      refine ⟨rfl, yes_turn ?_⟩
      refine ⟨_, rfl, _, rfl, 2, wide, rfl, rfl, .inl ⟨by decide, by decide⟩, _, _, rfl, rfl, m, c, l', k + 57 - (i + 1), 2 * wide + 2, rfl, by omega, by omega, by
          have e : k + 57 - (i + 1) + 1 = k + 57 - i := by omega
          rw [e]; exact D, fun r l'' H'' r0 r1 kp' D' => ⟨1, r, rfl, rfl, ?_⟩⟩
      obtain ⟨hL', nl'⟩ := kp'.own hL nm nl
      refine ⟨_, hL', ?_, l'', ss ++ [1 + r], ?_, by simp [hlen], ?_, (kp.trans kp').set hS, D'.set nm nc nl', nm, nc, nl'⟩
      · rw [List.length_map]
        exact small1000 (by omega)
      · rw [upd_same, List.map_append]
        rfl
      · intro s hs
        rcases List.mem_append.mp hs with h | h
        · exact hss s h
        · rw [List.mem_singleton.mp h]
          omega
    · rintro H4 ⟨l4, ss, hL, hlen, hss, kp4, D4, nSm, nSc, nSl⟩
      have kp14 := kp13.trans kp4
      have hSm := nSm
      have len16 : (1 + np).toNat ≤ 16 := by omega
      have D4 : Dr H4 m c l4 (k + 41) := D4.less (by omega)
      refine ⟨Nat.zero_le _, fun M hM => ?_⟩
      obtain ⟨cs4, ls4, z4, e41, e42, e43, _⟩ := D4.ex
      have nMm : M ≠ m := (ne_of_none e41 hM).symm
      have nMc : M ≠ c := (ne_of_none e42 hM).symm
      have nMl : M ≠ l4 := (ne_of_none e43 hM).symm
      have nMS : S ≠ M := ne_of_none hL hM
      have hL5 := same_new (o := .lst []) hM _ _ hL
      have kp5 : Kp m l H l4 (upd H4 M (.lst [])) := kp14.trans (Kp.new hM)
      have D5 : Dr (upd H4 M (.lst [])) m c l4 (k + 41) := D4.new hM
      have hM5 : (upd H4 M (.lst [])) M = some (.lst []) := upd_same
      have hM0 : H M = none := kp14.dm M hM
      generalize upd H4 M (.lst []) = H5 at hL5 kp5 D5 hM5
      refine ⟨_, rfl, _, rfl, _, _, rfl, rfl, m, c, l4, k + 40, codes - 1, rfl, by omega, by omega, D5, fun nm l6 H6 n60 n61 kp6 D6 => ⟨2, nm, rfl, rfl, _, rfl, by omega, by omega, ?_⟩⟩
      obtain ⟨hL6, nSl6⟩ := kp6.own hL5 nSm nSl
      obtain ⟨hM6, nMl6⟩ := kp6.own hM5 nMm nMl
      refine for_range (lo := 0) (n := (2 + nm).toNat) (fun i σ H' => ∃ (y : Option V) (l' : Addr) (ms : List V) (mvs : List (Int × Int)),
          σ = [some (.ref m), some (.int wide), some (.int places), some (.int codes), some (.int (0 - a)), some (.int b), y, some (.ref S), some (.ref M), none] ∧
          H' M = some (.lst ms) ∧ DpAll K H' ms (mvs.map pairI) ∧ mvs.length = i ∧ (∀ p ∈ mvs, (-16 ≤ p.1 ∧ p.1 ≤ 16) ∧ (-2 ≤ p.2 ∧ p.2 ≤ 2)) ∧
          H' S = some (.lst (ss.map V.int)) ∧ Kp m l H l' H' ∧ Dr H' m c l' (k + 40 - 2 * i) ∧ M ≠ l' ∧ S ≠ l')
        ⟨none, l6, [], [], rfl, hM6, .nil, rfl, by simp, hL6, kp5.trans kp6, D6, nMl6, nSl6⟩ ?_ ?_
      · rintro i σ H7 hi ⟨y, l7, ms, mvs, rfl, hM7, hD7, hlen7, hb7, hS7, kp7, D7, nMl7, nSl7⟩
        have hi' : i < 16 := by omega
        have e1 : k + 40 - 2 * i = k + 40 - 2 * (i + 1) + 2 := by omega
        rw [e1] at D7
        refine ⟨.ref M, rfl, .inl ⟨rfl, _, SqL.of hM7⟩, ?_⟩
        refine ⟨_, rfl, m, c, l7, k + 40 - 2 * (i + 1) + 1, 33, rfl, by decide, by decide, D7, fun r1 l8 H8 r10 r11 kp8 D8 => ⟨r1, 16, rfl, rfl, ?_⟩⟩
        obtain ⟨hM8, nMl8⟩ := kp8.own hM7 nMm nMl7
        obtain ⟨hS8, nSl8⟩ := kp8.own hS7 nSm nSl7
        refine ⟨_, rfl, m, c, l8, k + 40 - 2 * (i + 1), 5, rfl, by decide, by decide, D8, fun r2 l9 H9 r20 r21 kp9 D9 => ⟨r2, 2, rfl, rfl, by show 2 ≤ sizeLine; decide, fun p hp => ?_⟩⟩
        obtain ⟨hM9, nMl9⟩ := kp9.own hM8 nMm nMl8
        obtain ⟨hS9, nSl9⟩ := kp9.own hS8 nSm nSl8
        have hD9 : DpAll K H9 ms (mvs.map pairI) := dpAll_keep (keep_draw kp9 D8) _ _ (noLs_pairs _) (dpAll_keep (keep_draw kp8 D7) _ _ (noLs_pairs _) hD7)
        have sp := same_new (o := .tup [.int (r1 - 16), .int (r2 - 2)]) hp
        have hM10 := sp _ _ hM9
        have hS10 := sp _ _ hS9
        refine ⟨M, ms, _, rfl, rfl, hM10, ?_, ?_⟩
        · rw [dpAll_len hD7, List.length_map, hlen7]
          exact small1000 (by omega)
        · refine ⟨_, l9, ms ++ [.ref p], mvs ++ [(r1 - 16, r2 - 2)], rfl, upd_same, ?_, by simp [hlen7], ?_, (upd_ne nMS).trans hS10, (((kp7.trans kp8).trans kp9).trans (Kp.new hp)).set hM0, (D9.new hp).set nMm nMc nMl9, nMl9, nSl9⟩
          · rw [List.map_append]
            exact dpAll_app (pairs_set hM10 (dpAll_same sp _ _ hD9)) (.cons (dp_mkpair (s := (r1 - 16, r2 - 2)) (sqt_set hM10 upd_tup)) .nil)
          · intro x hx
            rcases List.mem_append.mp hx with h | h
            · exact hb7 x h
            · rw [List.mem_singleton.mp h]
              exact ⟨⟨by show -16 ≤ r1 - 16; omega, by show r1 - 16 ≤ 16; omega⟩, by show -2 ≤ r2 - 2; omega, by show r2 - 2 ≤ 2; omega⟩
      · rintro σ H7 ⟨y, l7, ms, mvs, rfl, hM7, hD7, hlen7, hb7, hS7, kp7, D7, nMl7, nSl7⟩
        have D7 : Dr H7 m c l7 (k + 2) := D7.less (by omega)
        -- fade
        refine ⟨_, rfl, m, c, l7, k + 1, 4, rfl, by decide, by decide, D7, fun f l8 H8 f0 f1 kp8 D8 => ⟨2, f, rfl, rfl, by show 4 ≤ sizeLine; decide, fun L hL8 => ?_⟩⟩
        obtain ⟨hM8, nMl8⟩ := kp8.own hM7 nMm nMl7
        obtain ⟨hS8, nSl8⟩ := kp8.own hS7 nSm nSl7
        have hD8 : DpAll K H8 ms (mvs.map pairI) := dpAll_keep (keep_draw kp8 D7) _ _ (noLs_pairs _) hD7
        obtain ⟨cs8, ls8, z8, e81, e82, e83, _⟩ := D8.ex
        have nLm : L ≠ m := (ne_of_none e81 hL8).symm
        have nLl : L ≠ l8 := (ne_of_none e83 hL8).symm
        have sL := same_new (o := .lst [V.int 0, V.int 0, V.int 2, V.int (2 + f)]) hL8
        have D9 : Dr (upd H8 L (.lst [V.int 0, V.int 0, V.int 2, V.int (2 + f)])) m c l8 (k + 1) := D8.new hL8
        have hL9 : (upd H8 L (.lst [V.int 0, V.int 0, V.int 2, V.int (2 + f)])) L = some (.lst [V.int 0, V.int 0, V.int 2, V.int (2 + f)]) := upd_same
        have kp9 : Kp m l H l8 (upd H8 L (.lst [V.int 0, V.int 0, V.int 2, V.int (2 + f)])) := (kp7.trans kp8).trans (Kp.new hL8)
        have hM9 := sL _ _ hM8
        have hS9 := sL _ _ hS8
        have hD9 := dpAll_same sL _ _ hD8
        generalize upd H8 L (.lst [V.int 0, V.int 0, V.int 2, V.int (2 + f)]) = H9 at sL D9 hL9 kp9 hM9 hS9 hD9
        refine ⟨_, rfl, m, c, l8, k, 4, rfl, by decide, by decide, D9, fun g l10 H10 g0 g1 kp10 D10 => ?_⟩
        obtain ⟨hL10, _⟩ := kp10.own hL9 nLm nLl
        obtain ⟨hM10, nMl10⟩ := kp10.own hM9 nMm nMl8
        obtain ⟨hS10, nSl10⟩ := kp10.own hS9 nSm nSl8
        have hD10 : DpAll K H10 ms (mvs.map pairI) := dpAll_keep (keep_draw kp10 D9) _ _ (noLs_pairs _) hD9
        obtain ⟨fd, hfd, hat⟩ : ∃ fd : Int, (fd = 0 ∨ (2 ≤ fd ∧ fd ≤ 5)) ∧ atI [V.int 0, V.int 0, V.int 2, V.int (2 + f)] g = some (.int fd) := by
          have hg : g = 0 ∨ g = 1 ∨ g = 2 ∨ g = 3 := by omega
          rcases hg with e | e | e | e <;> subst e
          · exact ⟨0, .inl rfl, atI_nat (j := 0) rfl⟩
          · exact ⟨0, .inl rfl, atI_nat (j := 1) rfl⟩
          · exact ⟨2, .inr ⟨by omega, by omega⟩, atI_nat (j := 2) rfl⟩
          · exact ⟨2 + f, .inr ⟨by omega, by omega⟩, atI_nat (j := 3) rfl⟩
        refine ⟨L, _, g, .int fd, rfl, rfl, SqL.of hL10, hat, ?_⟩
        -- the tuple
        refine ⟨_, rfl, _, rfl, .ref S, rfl, S, _, rfl, .inl ⟨SqL.of hS10, fun ts hts => ?_⟩⟩
        have s11 := same_new (o := .tup (ss.map V.int)) hts
        have hM11 := s11 _ _ hM10
        have t11 : (upd H10 ts (.tup (ss.map V.int))) ts = some (.tup (ss.map V.int)) := upd_same
        have hD11 := dpAll_same s11 _ _ hD10
        have kp11 : Kp m l H l10 (upd H10 ts (.tup (ss.map V.int))) := (kp9.trans kp10).trans (Kp.new hts)
        have D11 : Dr (upd H10 ts (.tup (ss.map V.int))) m c l10 k := D10.new hts
        generalize upd H10 ts (.tup (ss.map V.int)) = H11 at hM11 t11 hD11 kp11 D11
        refine ⟨.ref M, rfl, M, _, rfl, .inl ⟨SqL.of hM11, fun tm htm => ?_⟩⟩
        have s12 := same_new (o := .tup ms) htm
        have t12 := s12 _ _ t11
        have m12 : (upd H11 tm (.tup ms)) tm = some (.tup ms) := upd_same
        have hD12 := dpAll_same s12 _ _ hD11
        have kp12' : Kp m l H l10 (upd H11 tm (.tup ms)) := kp11.trans (Kp.new htm)
        have D12 : Dr (upd H11 tm (.tup ms)) m c l10 k := D11.new htm
        generalize upd H11 tm (.tup ms) = H12 at t12 m12 hD12 kp12' D12
        refine ⟨_, rfl, by show 5 ≤ sizeLine; decide, fun p hp => ?_⟩
        have s13 := same_new (o := .tup [V.int (0 - a), V.int b, V.ref ts, V.ref tm, V.int fd]) hp
        refine q _ ⟨0 - a, b, ss, mvs, fd⟩ l10 _ (kp12'.trans (Kp.new hp)) (D12.new hp) ⟨⟨by show -wide ≤ 0 - a; omega, by show 0 - a ≤ 0; omega⟩, ⟨b0, by show b ≤ wide; omega⟩, ⟨by show 1 ≤ ss.length; omega, by show (ss.length : Int) ≤ places; omega⟩, hss, ⟨by show 2 ≤ mvs.length; omega, by show (mvs.length : Int) ≤ codes; omega⟩, hb7, hfd⟩ ?_
        refine .tup upd_tup (.cons (.int _) (.cons (.int _) (.cons ?_ (.cons ?_ (.cons (.int _) .nil)))))
        · exact dp_tints (.inl (.inl (s13 _ _ t12)))
        · exact .tup (.inl (.inl (s13 _ _ m12))) (dpAll_same s13 _ _ hD12)
end
end My

namespace My
open PySem PySem.Spec PyProof.Rows L2
/-! ### the size of what is written out -/
structure Sh (k n : Nat) (d : PyData) : Prop where
  sh : d.showable = true
  nd : d.hasDict = false
  dp : d.depth ≤ k
  le : d.shown.length ≤ n
theorem Sh.mono {k n k' n' : Nat} {d : PyData} (h : Sh k n d) (h1 : k ≤ k') (h2 : n ≤ n') : Sh k' n' d := ⟨h.sh, h.nd, Nat.le_trans h.dp h1, Nat.le_trans h.le h2⟩
theorem sh_int {i : Int} (h : i.natAbs < 2 ^ 64) : Sh 0 1921 (.int i) := by
  have hl : i.natAbs.log2 < 1920 := Nat.lt_trans (PySem.Flt.log2_lt_of (by decide) h) (by decide)
  exact ⟨decide_eq_true hl, rfl, Nat.le_refl _, int_text_len_1921 hl⟩
theorem sh_all {k n : Nat} : ∀ {ds : List PyData}, (∀ d ∈ ds, Sh k n d) → PyData.showableAll ds = true ∧ PyData.hasDictAll ds = false ∧ PyData.depthAll ds ≤ k ∧ piled (PyData.shownAll ds) ≤ ds.length * (n + 2) ∧ (PyData.shownAll ds).length = ds.length
  | [], _ => ⟨rfl, rfl, Nat.zero_le _, Nat.zero_le _, rfl⟩
  | d :: r, h => by
    obtain ⟨h1, h2, h3, h4, h5⟩ := sh_all fun e he => h e (List.mem_cons_of_mem d he)
    have hd := h d List.mem_cons_self
    refine ⟨?_, ?_, ?_, ?_, ?_⟩
    · show (d.showable && PyData.showableAll r) = true
      rw [hd.sh, h1]
      rfl
    · show (d.hasDict || PyData.hasDictAll r) = false
      rw [hd.nd, h2]
      rfl
    · show max d.depth (PyData.depthAll r) ≤ k
      exact Nat.max_le.mpr ⟨hd.dp, h3⟩
    · show piled (d.shown :: PyData.shownAll r) ≤ (r.length + 1) * (n + 2)
      rw [piled_cons, Nat.succ_mul]
      have := hd.le
      omega
    · show (PyData.shownAll r).length + 1 = r.length + 1
      rw [h5]
theorem sh_tup {k n : Nat} {ds : List PyData} (h : ∀ d ∈ ds, Sh k n d) : Sh (k + 1) (ds.length * (n + 2) + 3) (.tuple ds) := by
  obtain ⟨h1, h2, h3, h4, h5⟩ := sh_all h
  refine ⟨h1, h2, Nat.succ_le_succ h3, ?_⟩
  show (tupleText (PyData.shownAll ds)).length ≤ _
  unfold tupleText
  rw [strLen_append, strLen_append]
  have e1 : ((("(" : String) : Str)).length = 1 := rfl
  have e3 : (((if (PyData.shownAll ds).length == 1 then ",)" else ")" : String) : Str)).length ≤ 2 := by split <;> decide
  rw [e1]
  by_cases hn : PyData.shownAll ds = []
  · rw [hn] at e3 ⊢
    have : (Str.join ", " []).length = 0 := rfl
    omega
  · have := join_length_add (PyData.shownAll ds) hn
    omega
theorem sh_list2 {k n : Nat} {a b : PyData} (h1 : Sh k n a) (h2 : Sh k n b) : Sh (k + 1) (2 * n + 4) (.list [a, b]) := by
  refine ⟨?_, ?_, ?_, ?_⟩
  · show (a.showable && (b.showable && true)) = true
    rw [h1.sh, h2.sh]
    rfl
  · show (a.hasDict || (b.hasDict || false)) = false
    rw [h1.nd, h2.nd]
    rfl
  · show max a.depth (max b.depth 0) + 1 ≤ k + 1
    have := h1.dp
    have := h2.dp
    omega
  · show (listText [a.shown, b.shown]).length ≤ _
    have e : listText [a.shown, b.shown] = (((((Str.ofString "[" ++ Str.ofString "") ++ a.shown) ++ Str.ofString ", ") ++ b.shown) ++ Str.ofString "]") := rfl
    rw [e, strLen_append, strLen_append, strLen_append, strLen_append, strLen_append]
    have e0 : (Str.ofString "").length = 0 := by decide
    have e1 : (Str.ofString "[").length = 1 := by decide
    have e2 : (Str.ofString "]").length = 1 := by decide
    have e3 : (Str.ofString ", ").length = 2 := by decide
    have := h1.le
    have := h2.le
    omega
theorem sh_ints {ns : List Int} (h : ∀ z ∈ ns, z.natAbs < 2 ^ 64) : Sh 1 (ns.length * 1923 + 3) (.tuple (ns.map .int)) := by
  have := sh_tup (k := 0) (n := 1921) (ds := ns.map .int) fun d hd => by
    obtain ⟨z, hz, rfl⟩ := List.mem_map.mp hd
    exact sh_int (h z hz)
  rw [List.length_map] at this
  exact this
theorem sh_pair {s : Int × Int} (h1 : s.1.natAbs < 2 ^ 64) (h2 : s.2.natAbs < 2 ^ 64) : Sh 1 4000 (pairI s) :=
  (sh_tup (k := 0) (n := 1921) (ds := [.int s.1, .int s.2]) fun d hd => by
    rcases List.mem_cons.mp hd with e | e
    · rw [e]; exact sh_int h1
    · rw [List.mem_singleton.mp e]; exact sh_int h2).mono (Nat.le_refl _) (by simp)
theorem sz_line {n : Nat} (h : n ≤ 1000000) : n ≤ sizeLine := Nat.le_trans h (by decide)
/-! ### slices and sums of tuples -/
theorem cut_take {xs : List V} {n : Nat} (h : n ≤ xs.length) : cutV xs none (some (n : Int)) = xs.take n := by
  unfold cutV
  rw [HT.sIx_none, HT.sIx_nat, Nat.min_eq_left h]
  rfl
theorem cut_drop {xs : List V} {n : Nat} (h : n ≤ xs.length) : cutV xs (some (n : Int)) none = xs.drop n := by
  unfold cutV
  rw [HT.sIx_none, HT.sIx_nat, Nat.min_eq_left h]
  exact List.take_of_length_le (by simp)
theorem dp_row {K : PySem.W.Frag} {H : Hp} {a : Addr} {r : List Nat} (h : SqT K H a (rowV r)) : Dp K H (.ref a) (rowI r) := by
  refine .tup h ?_
  clear h
  induction r with
  | nil => exact .nil
  | cons n r ih => exact .cons (.int n) ih
theorem sl_take {K : PySem.W.Frag} {H : Hp} {a : Addr} {r : List Nat} {n : Nat} {Q : VK} (h : SqT K H a (rowV r)) (hn : n ≤ r.length) (k : ∀ v H', Same H H' → Dp K H' v (rowI (r.take n)) → Q v H') :
    rSlA K (.ref a) none (some (n : Int)) H Q := by
  have hl : (rowV r).length = r.length := List.length_map ..
  refine ⟨a, rowV r, rfl, h, fun ⟨_, e⟩ => ?_, fun _ p hp => ?_⟩
  · rw [HT.sIx_nat, hl, Nat.min_eq_left hn] at e
    refine k _ H (Same.refl H) ?_
    rw [e, List.take_length]
    exact dp_row h
  · refine k _ _ (same_new hp) ?_
    rw [cut_take (by omega), show (rowV r).take n = rowV (r.take n) from List.map_take.symm]
    exact dp_row upd_tup
theorem sl_drop {K : PySem.W.Frag} {H : Hp} {a : Addr} {r : List Nat} {n : Nat} {Q : VK} (h : SqT K H a (rowV r)) (hn : n ≤ r.length) (k : ∀ v H', Same H H' → Dp K H' v (rowI (r.drop n)) → Q v H') :
    rSlA K (.ref a) (some (n : Int)) none H Q := by
  have hl : (rowV r).length = r.length := List.length_map ..
  refine ⟨a, rowV r, rfl, h, fun ⟨e, _⟩ => ?_, fun _ p hp => ?_⟩
  · rw [HT.sIx_nat, hl, Nat.min_eq_left hn] at e
    refine k _ H (Same.refl H) ?_
    rw [e]
    exact dp_row h
  · refine k _ _ (same_new hp) ?_
    rw [cut_drop (by omega), show (rowV r).drop n = rowV (r.drop n) from List.map_drop.symm]
    exact dp_row upd_tup
theorem cat_ints {K : PySem.W.Frag} {H : Hp} {a b : Addr} {ns ms : List Int} {Q : VK} (ha : SqT K H a (ns.map V.int)) (hb : SqT K H b (ms.map V.int)) (hl : ns.length + ms.length ≤ sizeLine)
    (k : ∀ v H', Same H H' → Dp K H' v (.tuple ((ns ++ ms).map .int)) → Q v H') : rCatA K (.ref a) (.ref b) H Q := by
  refine ⟨a, b, _, _, rfl, rfl, ha, hb, by rw [List.length_map, List.length_map]; exact hl, fun e => ?_, fun _ e => ?_, fun _ _ p hp => ?_⟩
  · have e' : ns = [] := List.map_eq_nil_iff.mp e
    refine k _ H (Same.refl H) ?_
    rw [e']
    exact dp_tints hb
  · have e' : ms = [] := List.map_eq_nil_iff.mp e
    refine k _ H (Same.refl H) ?_
    rw [e', List.append_nil]
    exact dp_tints ha
  · refine k _ _ (same_new hp) (dp_tints ?_)
    rw [List.map_append]
    exact upd_tup
theorem dp_last {K : PySem.W.Frag} {H : Hp} {xs : List V} {ps : List (Int × Int)} {s : Int × Int} (h : DpAll K H xs ((ps ++ [s]).map pairI)) : ∃ ys z, xs = ys ++ [z] ∧ Dp K H z (pairI s) := by
  have hl := dpAll_len h
  have hne : xs ≠ [] := by
    intro e
    rw [e] at hl
    simp at hl
  obtain ⟨z, hz, hd⟩ := dpAll_get' h (i := ps.length) (d := pairI s) (by rw [List.map_append, List.getElem?_append_right (by simp)]; simp)
  refine ⟨xs.dropLast, z, ?_, hd⟩
  have hxl : xs.length = ps.length + 1 := by rw [hl]; simp
  have : xs.getLast hne = z := by
    rw [List.getLast_eq_getElem]
    have e : xs[xs.length - 1]? = some z := by rw [hxl]; exact hz
    exact (List.getElem?_eq_some_iff.mp e).2
  rw [← this]
  exact (List.dropLast_concat_getLast hne).symm
/-- repr(..) of data that is small -/
theorem rr {K : PySem.W.Frag} {H : Hp} {v : V} {d : PyData} {k n : Nat} {Q : VK} (h : Dp K H v d) (s : Sh k n d) (hk : k ≤ 60) (hn : n ≤ 1000000) (q : Q (.str d.shown) H) : rRepr K [v] H Q :=
  ⟨v, d, rfl, h, s.sh, s.nd, Nat.le_trans s.dp hk, sz_line (Nat.le_trans s.le hn), q⟩
/-- x != y of equal texts -/
theorem ne_same {x : Str} {A B : Hp → Prop} {H : Hp} (q : B H) : rNe (.str x) (.str x) H fun v H' => ∃ c, v = .bl c ∧ if c = true then A H' else B H' := by
  refine ⟨rfl, false, ?_, iteF q⟩
  show V.bl (!decide (V.str x = V.str x)) = V.bl false
  rw [decide_eq_true rfl]
  rfl
theorem eq_same {x : Str} {H : Hp} {Q : VK} (q : Q (.bl true) H) : rEq (.str x) (.str x) H Q := by
  refine ⟨rfl, ?_⟩
  rw [decide_eq_true rfl]
  exact q
section
variable {P : Program} {w : World} {K : PySem.W.Frag} {mg : Str → Option Value} {base : Heap}
def sp_law_some_state (K : PySem.W.Frag) : Sp := fun vs H Q _ => ∃ (m c l : Addr) (k : Nat) (x : V) (C : Cod), vs = [.ref m, x] ∧ C.Ok ∧ Dp K H x C.dat ∧ Dr H m c l (k + 2) ∧
  ∀ z s l' H', Kp m l H l' H' → Dr H' m c l' k → C.St s → Dp K H' z (pairI s) → Q z H'
theorem ok_law_some_state (T : Txt K mg) : FnOk P w K mg base CX0 3 T.f__law_some_state T.d__law_some_state ["m", "coder"] (sp_law_some_state K) := by
  refine T.F__law_some_state.ok sc_law_some_state (fun vs H Q E h => ?_) (fun cdv A outer s H vs Q E hr h => ?_)
  · obtain ⟨m, c, l, k, x, C, rfl, _⟩ := h
    rfl
  · obtain ⟨m, c, l, k, x, C, rfl, O, hc, D, q⟩ := h
    obtain ⟨a, s, mm, ms, rfl, ha, hs, hm, hmd⟩ := cod_at hc
    have := O.l1
    have := O.l2
    have := O.h1
    have := O.h2
    have := O.s1
    have := O.s2
    refine ⟨_,
(pss_one (ps_ret (pe_tup (pa_cons (pe_op op_add (pe_ix ix_tup (pv 1) pe_int (fun _ _ => rfl)) (pe_call (ok_law_next T) (hr.mono (by decide)) (by rfl) T.g__law_next T.F__law_next.kp T.b__law_next .nil pass0 (pa_cons (pv 0) (pa_cons (pe_op op_add (pe_op op_sub (pe_ix ix_tup (pv 1) pe_int (fun _ _ => rfl)) (pe_ix ix_tup (pv 1) pe_int (fun _ _ => rfl))) pe_int) pa_nil)))) (pa_cons (pe_call (ok_law_next T) (hr.mono (by decide)) (by rfl) T.g__law_next T.F__law_next.kp T.b__law_next .nil pass0 (pa_cons (pv 0) (pa_cons (pe_callB (call_len_seq) (by rfl) T.z_len (by decide +kernel) (pa_cons (pe_ix ix_tup (pv 1) pe_int (fun _ _ => rfl)) pa_nil)) pa_nil))) pa_nil)))))
, ?_⟩
    refine ⟨_, rfl, a, _, 0, _, rfl, rfl, ha, atI_nat (j := 0) rfl, ?_⟩
    refine ⟨_, rfl, _, rfl, a, _, 1, _, rfl, rfl, ha, atI_nat (j := 1) rfl, _, rfl, a, _, 0, _, rfl, rfl, ha, atI_nat (j := 0) rfl, C.high, C.low, rfl, rfl, _, _, rfl, rfl, m, c, l, k + 1, C.high - C.low + 1, rfl, by omega, by omega, D,
      fun r l1 H1 r0 r1 kp1 D1 => ⟨C.low, r, rfl, rfl, ?_⟩⟩
    have K1 := keep_draw kp1 D
    refine ⟨_, rfl, _, rfl, a, _, 2, _, rfl, rfl, K1.tup ha, atI_nat (j := 2) rfl, s, _, rfl, .inr (K1.tup hs), m, c, l1, k, ((C.steps.map V.int).length : Int), rfl, ?_, ?_, D1, fun p l2 H2 p0 p1 kp2 D2 => ⟨by show 2 ≤ sizeLine; decide, fun z hz => ?_⟩⟩
    · rw [List.length_map]; omega
    · rw [List.length_map]; omega
    rw [List.length_map] at p1
    exact q _ (C.low + r, p) l2 _ ((kp1.trans kp2).trans (Kp.new hz)) (D2.new hz) ⟨by show C.low ≤ C.low + r; omega, by show C.low + r ≤ C.high; omega, p0, p1⟩ (dp_mkpair upd_tup)
end
section
variable {P : Program} {w : World} {K : PySem.W.Frag} {mg : Str → Option Value} {base : Heap}
def sp_law_row (K : PySem.W.Frag) : Sp := fun vs H Q _ => ∃ (m c l : Addr) (k : Nat) (x : V) (C : Cod) (many : Nat), vs = [.ref m, x, .int many] ∧ many ≤ 900 ∧ C.Ok ∧ Dp K H x C.dat ∧ Dr H m c l (k + many + 1) ∧
  ∀ z row l' H', Kp m l H l' H' → Dr H' m c l' k → C.Row row → row.length ≤ many → Dp K H' z (rowI row) → Q z H'
theorem ok_law_row (T : Txt K mg) : FnOk P w K mg base CX0 3 T.f__law_row T.d__law_row ["m", "coder", "many"] (sp_law_row K) := by
  refine T.F__law_row.ok sc_law_row (fun vs H Q E h => ?_) (fun cdv A outer s H vs Q E hr h => ?_)
  · obtain ⟨m, c, l, k, x, C, many, rfl, _⟩ := h
    rfl
  · obtain ⟨m, c, l, k, x, C, many, rfl, hmany, O, hc, D, q⟩ := h
    obtain ⟨a, s, mm, ms, rfl, ha, hs, hm, hmd⟩ := cod_at hc
    have := O.m1
    have := O.m2
    refine ⟨_,
(pss_one (ps_ret (pe_callTy call_tuple_of (by rfl) T.z_tuple (by decide +kernel) (pa_cons (pe_lc (own := [("k", 3)]) rfl sc_law_row.nd (pi_range1 (by rfl) T.z_range (pa_cons (pe_call (ok_law_next T) (hr.mono (by decide)) (by rfl) T.g__law_next T.F__law_next.kp T.b__law_next .nil pass0 (pa_cons (pv 0) (pa_cons (pe_op op_add (pv 2) pe_int) pa_nil))) pa_nil)) (blkOk_by (own := [("k", 3)]) (N := ["m", "coder", "many", "k"]) (sc := defScope s_law_row) (by decide +kernel)) (fun _ _ _ _ _ => (pg_name (i := 3) sc_law_row.nd rfl (Or.inl rfl))) (fun _ _ _ _ _ => pts_nil) (fun _ _ _ _ _ => (pe_call (ok_law_next T) (hr.mono (by decide)) (by rfl) T.g__law_next T.F__law_next.kp T.b__law_next .nil pass0 (pa_cons (pv 0) (pa_cons (pe_callB (My.call_lenK (K := K)) (by rfl) T.z_len (by decide +kernel) (pa_cons (pe_ix (My.ix_tupK (K := K)) (pv 1) pe_int (fun _ _ => rfl)) pa_nil)) pa_nil))))) pa_nil))))
, ?_⟩
    refine ⟨_, rfl, _, rfl, _, _, rfl, rfl, m, c, l, k + many, (many : Int) + 1, rfl, by omega, by omega, D, fun n l1 H1 n0 n1 kp1 D1 => ⟨n, rfl, by omega, by omega, fun S hS => ?_⟩⟩
    have K1 := keep_draw kp1 D
    obtain ⟨cs3, ls3, z3, e31, e32, e33, _⟩ := D1.ex
    have hml : ms.length = C.moves.length := by rw [dpAll_len hmd, List.length_map]
    refine lc_range (lo := 0) (n := n.toNat) (fun i H' => ∃ (l' : Addr) (rs : List Nat), H' S = some (.lst (rowV rs)) ∧ rs.length = i ∧ (∀ r ∈ rs, r < C.moves.length) ∧ Kp m l1 H1 l' H' ∧ Keep H1 H' ∧ Dr H' m c l' (k + many - i) ∧ S ≠ m ∧ S ≠ c ∧ S ≠ l')
      ⟨l1, [], upd_same, rfl, by simp, Kp.new hS, keep_same (same_new hS), D1.new hS, (ne_of_none e31 hS).symm, (ne_of_none e32 hS).symm, (ne_of_none e33 hS).symm⟩ ?_ ?_
    · rintro i H' hi ⟨l', rs, hL, hlen, hrs, kp, kk, D2, nm, nc, nl⟩
      refine ⟨rfl, yes_turn ?_⟩
      have kt := K1.trans kk
      refine ⟨_, rfl, _, rfl, a, _, 3, _, rfl, rfl, kt.tup ha, atI_nat (j := 3) rfl, mm, _, rfl, .inr (kt.tup hm), m, c, l', k + many - (i + 1), (ms.length : Int), rfl, by omega, by omega, ?_, fun r l'' H'' r0 r1 kp' D' => ?_⟩
      · have e : k + many - (i + 1) + 1 = k + many - i := by omega
        rw [e]
        exact D2
      obtain ⟨hL', nl'⟩ := kp'.own hL nm nl
      refine ⟨_, hL', ?_, l'', rs ++ [r.toNat], ?_, by simp [hlen], ?_, (kp.trans kp').set hS, (kk.trans (keep_draw kp' D2)).trans (keep_set hL'), D'.set nm nc nl', nm, nc, nl'⟩
      · show (rs.map _).length < _
        rw [List.length_map]
        exact small1000 (by omega)
      · rw [upd_same]
        unfold rowV
        rw [List.map_append]
        have e : r = ((r.toNat : Nat) : Int) := by omega
        show _ = some (HO.lst (_ ++ [V.int ((r.toNat : Nat) : Int)]))
        rw [← e]
      · intro z hz
        rcases List.mem_append.mp hz with h | h
        · exact hrs z h
        · rw [List.mem_singleton.mp h]
          omega
    · rintro H4 ⟨l4, rs, hL, hlen, hrs, kp4, kk, D4, nm, nc, nl⟩
      refine ⟨S, _, rfl, .inl ⟨SqL.of hL, fun t ht => ?_⟩⟩
      exact q _ rs l4 _ ((kp1.trans kp4).trans (Kp.new ht)) ((D4.less (by omega)).new ht) ⟨by omega, hrs⟩ (by omega) (dp_row upd_tup)
end
end My

/-! how long the texts of data are -/
namespace My
open PySem PySem.Spec PyProof.Rows L2
theorem textFrom_le {n : Nat} : ∀ (ts : List Str) (k : Nat) (acc : Str), (∀ t ∈ ts, t.length ≤ n) → (textFrom k acc ts).length ≤ acc.length + ts.length * (n + 2)
  | [], k, acc, _ => by show acc.length ≤ _; omega
  | t :: ts, k, acc, h => by
    have ht := h t List.mem_cons_self
    have hr := textFrom_le ts (k + 1) (acc ++ (if k > 0 then ", " else "" : String) ++ t) fun e he => h e (List.mem_cons_of_mem _ he)
    show (textFrom (k + 1) (acc ++ (if k > 0 then ", " else "" : String) ++ t) ts).length ≤ _
    have e : (((if k > 0 then ", " else "" : String) : Str)).length ≤ 2 := by split <;> decide
    rw [strLen_append, strLen_append] at hr
    rw [List.length_cons, Nat.succ_mul]
    omega
theorem shown_all {n : Nat} : ∀ {ds : List PyData}, (∀ d ∈ ds, d.shown.length ≤ n) → ∀ t ∈ PyData.shownAll ds, t.length ≤ n
  | [], _, _, ht => by cases ht
  | d :: r, h, t, ht => by
    rcases List.mem_cons.mp (show t ∈ d.shown :: PyData.shownAll r from ht) with e | e
    · rw [e]; exact h d List.mem_cons_self
    · exact shown_all (fun e he => h e (List.mem_cons_of_mem _ he)) t e
theorem sh_list {k n : Nat} {ds : List PyData} (h : ∀ d ∈ ds, Sh k n d) : Sh (k + 1) (ds.length * (n + 2) + 2) (.list ds) := by
  obtain ⟨h1, h2, h3, h4, h5⟩ := sh_all h
  refine ⟨h1, h2, Nat.succ_le_succ h3, ?_⟩
  show (listText (PyData.shownAll ds)).length ≤ _
  unfold listText
  rw [strLen_append]
  have e1 : ((("[" : String) : Str)).length = 1 := rfl
  have e2 : ((("]" : String) : Str)).length = 1 := rfl
  have := textFrom_le (n := n) (PyData.shownAll ds) 0 "[" (shown_all fun d hd => (h d hd).le)
  rw [h5] at this
  omega
theorem sh_cod {C : Cod} (O : C.Ok) : Sh 3 400000 C.dat := by
  have a : Sh 2 70000 (.tuple (C.steps.map .int)) := (sh_ints fun z hz => by
    have := O.s3 z hz
    omega).mono (by decide) (by have := O.s2; omega)
  have b : Sh 2 70000 (.tuple (C.moves.map pairI)) := by
    refine (sh_tup (k := 1) (n := 4000) (ds := C.moves.map pairI) fun d hd => ?_).mono (Nat.le_refl _) (by rw [List.length_map]; have := O.m2; omega)
    obtain ⟨p, hp, rfl⟩ := List.mem_map.mp hd
    have := O.m3 p hp
    exact sh_pair (by omega) (by omega)
  have l := O.l1
  have l2 := O.l2
  have h1 := O.h1
  have h2 := O.h2
  have i : ∀ z : Int, z.natAbs < 2 ^ 64 → Sh 2 70000 (.int z) := fun z hz => (sh_int hz).mono (by decide) (by decide)
  refine (sh_tup (k := 2) (n := 70000) (ds := [.int C.low, .int C.high, .tuple (C.steps.map .int), .tuple (C.moves.map pairI), .int C.fade]) fun d hd => ?_).mono (Nat.le_refl _) (by simp)
  rcases List.mem_cons.mp hd with e | hd
  · rw [e]; exact i _ (by omega)
  rcases List.mem_cons.mp hd with e | hd
  · rw [e]; exact i _ (by omega)
  rcases List.mem_cons.mp hd with e | hd
  · rw [e]; exact a
  rcases List.mem_cons.mp hd with e | hd
  · rw [e]; exact b
  · rw [List.mem_singleton.mp hd]; exact i _ (by have := O.f1; omega)
theorem sh_non : Sh 0 2000 .none := ⟨rfl, rfl, Nat.le_refl _, by decide +kernel⟩
theorem sh_bl : Sh 0 2000 (.bool true) := ⟨rfl, rfl, Nat.le_refl _, by decide +kernel⟩
theorem sh_bf : Sh 0 2000 (.bool false) := ⟨rfl, rfl, Nat.le_refl _, by decide +kernel⟩
theorem sh_i {i : Int} (h : i.natAbs < 2 ^ 64) : Sh 0 2000 (.int i) := (sh_int h).mono (Nat.le_refl _) (by decide)
theorem all0 {p : PyData → Prop} : ∀ d ∈ ([] : List PyData), p d := fun _ h => by cases h
theorem all1 {p : PyData → Prop} {a : PyData} {r : List PyData} (h : p a) (hr : ∀ d ∈ r, p d) : ∀ d ∈ a :: r, p d := fun d hd => by
  rcases List.mem_cons.mp hd with e | e
  · rw [e]; exact h
  · exact hr d e
/-- of at most three small things -/
theorem sh_t {k n : Nat} {ds : List PyData} (hl : ds.length ≤ 3) (h : ∀ d ∈ ds, Sh k n d) : Sh (k + 1) (3 * (n + 2) + 3) (.tuple ds) :=
  (sh_tup h).mono (Nat.le_refl _) (Nat.add_le_add_right (Nat.mul_le_mul_right _ hl) _)
theorem sh_l {k n : Nat} {ds : List PyData} (hl : ds.length ≤ 3) (h : ∀ d ∈ ds, Sh k n d) : Sh (k + 1) (3 * (n + 2) + 3) (.list ds) :=
  (sh_list h).mono (Nat.le_refl _) (Nat.add_le_add (Nat.mul_le_mul_right _ hl) (by decide))
end My

namespace My
open PySem PySem.Spec PyProof.Rows L2
section
variable {P : Program} {w : World} {K : PySem.W.Frag} {mg : Str → Option Value} {base : Heap}
theorem ok_law_parted (T : Txt K mg) : FnOk P w K mg base CX0 2 T.f__law_parted T.d__law_parted ["number", "by"] sp_rounded := by
  refine T.F__law_parted.ok sc_law_parted (fun vs H Q E h => ?_) (fun cdv A outer s H vs Q E hr h => ?_)
  · obtain ⟨n, d, rfl, _⟩ := h
    rfl
  · obtain ⟨n, d, rfl, h1, h2, q⟩ := h
    have q' : ∀ z, rnd n d = z → Q (.int z) H := fun z e => e ▸ q
    refine ⟨_,
(pss_one (ps_ret (pe_ifExp (pt_cmpR op_ge (pv 0) pe_int (nomark _)) (pe_op op_fdivN (pv 0) (pv 1)) (pe_op op_sub pe_int (pe_op op_fdivN (pe_op op_sub pe_int (pv 0)) (pv 1))))))
, ?_⟩
    refine ⟨_, rfl, n, 0, rfl, rfl, _, rfl, ?_⟩
    refine ite2 (fun e => ?_) (fun e => ?_)
    · have e := of_decide_eq_true e
      refine ⟨_, rfl, _, rfl, n, d, rfl, rfl, ⟨by omega, by omega⟩, q' _ ?_⟩
      unfold rnd
      rw [if_neg (by omega)]
    · have e : ¬ 0 ≤ n := fun z => e (decide_eq_true z)
      refine ⟨_, rfl, 0, n, rfl, rfl, _, rfl, _, d, rfl, rfl, ⟨by omega, by omega⟩, 0, _, rfl, rfl, q' _ ?_⟩
      unfold rnd
      rw [if_pos (by omega), Int.zero_sub, Int.zero_sub]
theorem ok_law_limited (T : Txt K mg) : FnOk P w K mg base CX0 2 T.f__law_limited T.d__law_limited ["number", "least", "most"] sp_limited := by
  refine T.F__law_limited.ok sc_law_limited (fun vs H Q E h => ?_) (fun cdv A outer s H vs Q E hr h => ?_)
  · obtain ⟨n, lo, hi, rfl, _⟩ := h
    rfl
  · obtain ⟨n, lo, hi, rfl, h1, q⟩ := h
    have q' : ∀ z, lim n lo hi = z → Q (.int z) H := fun z e => e ▸ q
    refine ⟨_,
(pss_one (ps_ret (pe_ifExp (pt_cmpR op_lt (pv 0) (pv 1) (nomark _)) (pv 1) (pe_ifExp (pt_cmpR op_gt (pv 0) (pv 2) (nomark _)) (pv 2) (pv 0)))))
, ?_⟩
    refine ⟨_, rfl, _, rfl, n, lo, rfl, rfl, _, rfl, ?_⟩
    refine ite2 (fun e => ?_) (fun e => ?_)
    · have e := of_decide_eq_true e
      refine ⟨_, rfl, q' _ ?_⟩
      unfold lim
      rw [if_pos e]
    · have e : ¬ n < lo := fun z => e (decide_eq_true z)
      refine ⟨_, rfl, _, rfl, n, hi, rfl, rfl, _, rfl, ?_⟩
      refine ite2 (fun e' => ?_) (fun e' => ?_)
      · have e' := of_decide_eq_true e'
        refine ⟨_, rfl, q' _ ?_⟩
        unfold lim
        rw [if_neg e, if_pos (by omega)]
      · have e' : ¬ hi < n := fun z => e' (decide_eq_true z)
        refine ⟨_, rfl, q' _ ?_⟩
        unfold lim
        rw [if_neg e, if_neg (by omega)]
set_option maxHeartbeats 4000000 in
theorem ok_law_led (T : Txt K mg) : FnOk P w K mg base CX0 3 T.f__law_led T.d__law_led ["coder", "here", "code"] (sp_state_behind K) := by
  refine T.F__law_led.ok sc_law_led (fun vs H Q E h => ?_) (fun cdv A outer s H vs Q E hr h => ?_)
  · obtain ⟨c, x, C, s, k, rfl, _⟩ := h
    rfl
  · obtain ⟨c, x, C, st, k, rfl, O, hc, hx, hst, hk, q⟩ := h
    obtain ⟨a, s, m, ms, rfl, ha, hs, hm, hmd⟩ := cod_at hc
    obtain ⟨t, ht, hT⟩ := move_at hmd hk
    obtain ⟨b, rfl, hb⟩ := dp_pair hx
    obtain ⟨i1, i2, i3, i4⟩ := hst
    have e2 : st.2 = (st.2.toNat : Int) := by omega
    refine ⟨_,
(pss_cons (ps_asg (pe_ix ix_tup (pe_ix ix_tup (pv 0) pe_int (fun _ _ => rfl)) (pv 2) (fun _ _ => rfl)) (pg_tup (by rfl) (pgs_cons (pg_name (i := 3) sc_law_led.nd rfl (Or.inl rfl)) (pgs_cons (pg_name (i := 4) sc_law_led.nd rfl (Or.inl rfl)) pgs_nil))))
      (pss_cons (ps_set (i := 5) sc_law_led.nd rfl (Or.inl rfl) (pe_ix ix_tup (pv 1) pe_int (fun _ _ => rfl)))
      (pss_cons (ps_if (pt_cmpR op_ne (pe_ix ix_tup (pv 0) pe_int (fun _ _ => rfl)) pe_int (nomark _)) (pss_one (ps_set (i := 5) sc_law_led.nd rfl (Or.inl rfl) (pe_op op_sub (pv 5) (pe_call (ok_law_parted T) (hr.mono (by decide)) (by rfl) T.g__law_parted T.F__law_parted.kp T.b__law_parted .nil pass0 (pa_cons (pv 5) (pa_cons (pe_ix ix_tup (pv 0) pe_int (fun _ _ => rfl)) pa_nil)))))) pss_nil)
      (pss_cons (ps_set (i := 5) sc_law_led.nd rfl (Or.inl rfl) (pe_op op_add (pv 5) (pe_call (ok_law_parted T) (hr.mono (by decide)) (by rfl) T.g__law_parted T.F__law_parted.kp T.b__law_parted .nil pass0 (pa_cons (pe_op op_mul (pv 3) (pe_ix ix_tup (pe_ix ix_tup (pv 0) pe_int (fun _ _ => rfl)) (pe_ix ix_tup (pv 1) pe_int (fun _ _ => rfl)) (fun _ _ => rfl))) (pa_cons pe_int pa_nil)))))
      (pss_one (ps_ret (pe_tup (pa_cons (pe_call (ok_law_limited T) (hr.mono (by decide)) (by rfl) T.g__law_limited T.F__law_limited.kp T.b__law_limited .nil pass0 (pa_cons (pv 5) (pa_cons (pe_ix ix_tup (pv 0) pe_int (fun _ _ => rfl)) (pa_cons (pe_ix ix_tup (pv 0) pe_int (fun _ _ => rfl)) pa_nil)))) (pa_cons (pe_call (ok_law_limited T) (hr.mono (by decide)) (by rfl) T.g__law_limited T.F__law_limited.kp T.b__law_limited .nil pass0 (pa_cons (pe_op op_add (pe_ix ix_tup (pv 1) pe_int (fun _ _ => rfl)) (pv 4)) (pa_cons pe_int (pa_cons (pe_op op_sub (pe_callB (call_len_seq) (by rfl) T.z_len (by decide +kernel) (pa_cons (pe_ix ix_tup (pv 0) pe_int (fun _ _ => rfl)) pa_nil)) pe_int) pa_nil)))) pa_nil)))))))))
, ?_⟩
    refine ⟨_, rfl, a, _, 3, _, rfl, rfl, ha, atI_nat (j := 3) rfl, _, rfl, m, _, k, _, rfl, rfl, hm, atI_nat ht, t, _, rfl, hT, rfl, _, _, rfl, _, _, rfl, rfl, ?_⟩
    refine ⟨_, rfl, b, _, 0, _, rfl, rfl, hb, atI_nat (j := 0) rfl, ?_⟩
    dsimp only
    refine st_tail (fun σ H' => σ = [some (.ref a), some (.ref b), some (.int k), some (.int (C.moves.getD k (0, 0)).1), some (.int (C.moves.getD k (0, 0)).2), some (.int (fdd st.1 C.fade))] ∧ H' = H) ?_ fun tail => ?_
    · rintro σ H' ⟨rfl, rfl⟩
      refine ⟨_, rfl, _, rfl, .ref a, rfl, a, _, 2, _, rfl, rfl, ha, atI_nat (j := 2) rfl, _, rfl, b, _, 1, _, rfl, rfl, hb, atI_nat (j := 1) rfl, s, _, st.2, .int (C.steps.getD st.2.toNat 0), rfl, rfl, hs, ?_, _, _, rfl, rfl, ?_, ?_⟩
      · rw [e2]
        exact atI_nat (step_at (by omega))
      · have hm3 : (C.moves.getD k (0, 0)) ∈ C.moves := by
          rw [List.getD_eq_getElem?_getD, List.getElem?_eq_getElem hk]
          exact List.getElem_mem hk
        have := O.m3 _ hm3
        exact .inl ⟨by omega, by omega⟩
      refine ⟨_, 8, rfl, by decide, by decide, _, _, rfl, rfl, ?_⟩
      refine ⟨_, rfl, _, rfl, a, _, 0, _, rfl, rfl, ha, atI_nat (j := 0) rfl, _, rfl, a, _, 1, _, rfl, rfl, ha, atI_nat (j := 1) rfl, _, _, _, rfl, by have := O.l2; have := O.h1; omega, ?_⟩
      refine ⟨_, rfl, b, _, 1, _, rfl, rfl, hb, atI_nat (j := 1) rfl, .int (C.moves.getD k (0, 0)).2, rfl, _, _, rfl, rfl, .ref a, rfl, a, _, 2, _, rfl, rfl, ha, atI_nat (j := 2) rfl, s, C.steps.map V.int, rfl, .inr hs, ((C.steps.map V.int).length : Int), 1, rfl, rfl, ?_⟩
      refine ⟨st.2 + (C.moves.getD k (0, 0)).2, 0, ((C.steps.map V.int).length : Int) - 1, rfl, ?_, ?_⟩
      · show (0 : Int) ≤ ((C.steps.map V.int).length : Int) - 1
        rw [List.length_map]
        have := O.s1
        omega
      refine ⟨by show 2 ≤ sizeLine; decide, fun p hp => ?_⟩
      have := q p hp
      unfold Cod.led at this
      have e : ((C.steps.map V.int).length : Int) = (C.steps.length : Int) := by rw [List.length_map]
      rw [← e] at this
      exact this
    · refine ⟨_, rfl, a, _, 4, _, rfl, rfl, ha, atI_nat (j := 4) rfl, rfl, _, rfl, ?_⟩
      show if (!decide (V.int C.fade = V.int 0)) = true then _ else _
      by_cases e : C.fade = 0
      · rw [e]
        refine iteF ?_
        refine tail _ _ ⟨?_, rfl⟩
        unfold fdd
        rw [if_pos e]
        rfl
      · have e' : decide (V.int C.fade = V.int 0) = false := decide_eq_false fun z => e (V.int.inj z)
        rw [e']
        refine iteT ?_
        refine ⟨.int st.1, rfl, .int st.1, rfl, .ref a, rfl, a, _, 4, _, rfl, rfl, ha, atI_nat (j := 4) rfl, st.1, C.fade, rfl, by have := O.f1; omega, by have := O.f1; omega, st.1, rnd st.1 C.fade, rfl, rfl, ?_⟩
        refine tail _ _ ⟨?_, rfl⟩
        unfold fdd
        rw [if_neg e]
        rfl
/-- the states of a row, the beginning one too -/
def Cod.path (C : Cod) (s : Int × Int) : List Nat → List (Int × Int)
  | [] => [s]
  | k :: r => s :: Cod.path C (C.led s k) r
theorem path_snoc {C : Cod} : ∀ (r : List Nat) (s : Int × Int) (k : Nat), C.path s (r ++ [k]) = C.path s r ++ [C.led (C.run s r) k]
  | [], _, _ => rfl
  | j :: r, s, k => by
    show s :: C.path (C.led s j) (r ++ [k]) = _
    rw [path_snoc r (C.led s j) k]
    rfl
theorem path_last {C : Cod} : ∀ (r : List Nat) (s : Int × Int), ∃ l, C.path s r = l ++ [C.run s r]
  | [], s => ⟨[], rfl⟩
  | j :: r, s => by
    obtain ⟨l, e⟩ := path_last r (C.led s j)
    exact ⟨s :: l, by show s :: C.path (C.led s j) r = _; rw [e]; rfl⟩
theorem path_len {C : Cod} : ∀ (r : List Nat) (s : Int × Int), (C.path s r).length = r.length + 1
  | [], _ => rfl
  | j :: r, s => congrArg (· + 1) (path_len r (C.led s j))
theorem path_get {C : Cod} : ∀ (r : List Nat) (s : Int × Int) (i : Nat), i ≤ r.length → (C.path s r)[i]? = some (C.run s (r.take i))
  | [], _, 0, _ => rfl
  | [], _, i + 1, h => by simp at h
  | j :: r, s, 0, _ => rfl
  | j :: r, s, i + 1, h => by
    show (C.path (C.led s j) r)[i]? = _
    exact path_get r _ i (by simpa using h)
theorem path_tail {C : Cod} : ∀ (r : List Nat) (s : Int × Int), ((C.path s r).drop 1).map (·.1) = C.lev s r
  | [], _ => rfl
  | [k], _ => rfl
  | k :: j :: r, s => by
    have ih := path_tail (C := C) (j :: r) (C.led s k)
    show (C.path (C.led s k) (j :: r)).map (·.1) = (C.led s k).1 :: C.lev (C.led s k) (j :: r)
    rw [← ih]
    rfl
def sp_law_walked (K : PySem.W.Frag) : Sp := fun vs H Q _ => ∃ (c x r : V) (C : Cod) (row : List Nat) (s : Int × Int), vs = [c, x, r] ∧ C.Ok ∧ Dp K H c C.dat ∧ Dp K H r (rowI row) ∧ C.Row row ∧ Dp K H x (pairI s) ∧ C.St s ∧
  ∀ p xs H', Same H H' → H p = none → H' p = some (.lst xs) → DpAll K H' xs ((C.path s row).map pairI) → Q (.ref p) H'
theorem ok_law_walked (T : Txt K mg) : FnOk P w K mg base CX0 4 T.f__law_walked T.d__law_walked ["coder", "here", "row"] (sp_law_walked K) := by
  refine T.F__law_walked.ok sc_law_walked (fun vs H Q E h => ?_) (fun cdv A outer s H vs Q E hr h => ?_)
  · obtain ⟨c, x, r, C, row, s, rfl, _⟩ := h
    rfl
  · obtain ⟨c, x, r, C, row, st, rfl, O, hc, hrow, R, hx, hst, q⟩ := h
    refine ⟨_,
(pss_cons (ps_set (i := 3) sc_law_walked.nd rfl (Or.inl rfl) (pe_lst (pa_cons (pv 1) pa_nil)))
      (pss_cons (ps_for PassesOwn.never rfl (pi_tup (pv 2)) (pg_name (i := 4) sc_law_walked.nd rfl (Or.inl rfl)) (pss_one (ps_expr (pe_bm PySem.F.plainAttrs_list PySem.F.slot_list_append PySem.F.type_list_append mt_append (pv 3) (pa_cons (pe_call (ok_law_led T) (hr.mono (by decide)) (by rfl) T.g__law_led T.F__law_led.kp T.b__law_led .nil pass0 (pa_cons (pv 0) (pa_cons (pe_ix ix_list (pv 3) (pe_un un_neg pe_int) (fun _ _ => rfl)) (pa_cons (pv 4) pa_nil)))) pa_nil)))))
      (pss_one (ps_ret (pv 3)))))
, ?_⟩
    refine ⟨x, rfl, by show 1 ≤ sizeLine; decide, fun l hl => ?_⟩
    have s1 := same_new (o := .lst [x]) hl
    obtain ⟨a, rfl, ha⟩ := row_at hrow
    refine ⟨.ref a, rfl, a, rfl, ⟨_, same_tup s1 ha⟩, ?_⟩
    refine for_tup (K := K) (a := a) (xs := rowV row) (fun i σ H' => ∃ xs y, σ = [some c, some x, some (.ref a), some (.ref l), y] ∧ Same H H' ∧ H' l = some (.lst xs) ∧ DpAll K H' xs ((C.path st (row.take i)).map pairI))
      ⟨[x], none, rfl, s1, upd_same, .cons (dp_same s1 _ _ hx) .nil⟩ ?_ ?_ ?_
    · rintro i σ H' _ ⟨_, _, _, s2, _⟩
      exact same_tup s2 ha
    · rintro i v σ H' hi ⟨xs, y, rfl, s2, hL, hD⟩
      obtain ⟨k, hk, rfl⟩ := rowV_get hi
      obtain ⟨ps, hps⟩ := path_last (C := C) (row.take i) st
      obtain ⟨x1, x2, rfl, z, e2, hz⟩ : ∃ x1 x2, xs = x1 ++ x2 ∧ ∃ z, x2 = [z] ∧ Dp K H' z (pairI (C.run st (row.take i))) := by
        have hl2 := dpAll_len hD
        rw [hps] at hD hl2
        have hne : xs ≠ [] := by
          intro e
          rw [e] at hl2
          simp at hl2
        refine ⟨xs.dropLast, [xs.getLast hne], (List.dropLast_concat_getLast hne).symm, _, rfl, ?_⟩
        obtain ⟨z, hz, hd⟩ := dpAll_get' hD (i := ps.length) (d := pairI (C.run st (row.take i))) (by rw [List.map_append, List.getElem?_append_right (by simp)]; simp)
        have hxl : xs.length = ps.length + 1 := by rw [hl2]; simp
        have : xs.getLast hne = z := by
          rw [List.getLast_eq_getElem]
          have e : xs[xs.length - 1]? = some z := by rw [hxl]; exact hz
          exact (List.getElem?_eq_some_iff.mp e).2
        rw [this]
        exact hd
      subst e2
      have hlen : i < 2000 := by
        have h1 := (List.getElem?_eq_some_iff.mp hk).1
        have := R.len
        omega
      refine ⟨.ref l, rfl, .inl ⟨rfl, _, SqL.of hL⟩, c, rfl, .ref l, rfl, 1, rfl, l, _, -1, z, rfl, rfl, SqL.of hL, atI_last _ _, .int k, rfl, c, z, C, _, k, rfl, O, dp_same s2 _ _ hc, hz, run_St O _ hst, R.lt k (List.mem_of_getElem? hk), fun p hp => ?_⟩
      have s3 := s2.trans (same_new (o := .tup [.int (C.led (C.run st (row.take i)) k).1, .int (C.led (C.run st (row.take i)) k).2]) hp)
      have hL3 := same_new (o := .tup [.int (C.led (C.run st (row.take i)) k).1, .int (C.led (C.run st (row.take i)) k).2]) hp _ _ hL
      have hD3 := dpAll_same (same_new (o := .tup [.int (C.led (C.run st (row.take i)) k).1, .int (C.led (C.run st (row.take i)) k).2]) hp) _ _ hD
      refine ⟨l, _, _, rfl, rfl, hL3, ?_, ?_⟩
      · rw [dpAll_len hD, List.length_map, path_len, List.length_take]
        exact Nat.lt_of_le_of_lt (Nat.add_le_add_right (Nat.min_le_left _ _) 1) (by have : i + 1 ≤ 2000 := hlen; exact Nat.lt_of_le_of_lt this (by decide))
      · refine ⟨_, _, rfl, fun b o hb => ?_, upd_same, ?_⟩
        · rw [upd_ne (ne_of_none hb hl)]
          exact s3 b o hb
        · rw [take_snoc hk, path_snoc, List.map_append]
          exact dpAll_app (pairs_set hL3 hD3) (.cons (dp_mkpair (sqt_set hL3 upd_tup)) .nil)
    · rintro σ H' ⟨xs, y, rfl, s2, hL, hD⟩
      have e : row.take (rowV row).length = row := by
        unfold rowV
        rw [List.length_map, List.take_length]
      rw [e] at hD
      exact ⟨.ref l, rfl, q l xs H' s2 hl hL hD⟩
end
end My

namespace My
open PySem PySem.Spec PyProof.Rows L2
/-! ### what rows do to places and levels -/
def Cod.plc (C : Cod) (p : Int) (k : Nat) : Int := lim (p + (C.moves.getD k (0, 0)).2) 0 ((C.steps.length : Int) - 1)
def Cod.pl (C : Cod) (p : Int) : List Nat → Int
  | [] => p
  | k :: r => Cod.pl C (C.plc p k) r
def Cod.chs (C : Cod) (p : Int) : List Nat → List Int
  | [] => []
  | k :: r => C.chg k p.toNat :: Cod.chs C (C.plc p k) r
def Cod.lvc (C : Cod) (l c : Int) : Int := lim (fdd l C.fade + c) C.low C.high
def Cod.lv (C : Cod) (l : Int) : List Int → Int
  | [] => l
  | c :: r => Cod.lv C (C.lvc l c) r
theorem run_split {C : Cod} : ∀ (row : List Nat) (l p : Int), C.run (l, p) row = (C.lv l (C.chs p row), C.pl p row)
  | [], _, _ => rfl
  | k :: r, l, p => run_split r (C.lvc l (C.chg k p.toNat)) (C.plc p k)
theorem run_eq {C : Cod} (row : List Nat) (s : Int × Int) : C.run s row = (C.lv s.1 (C.chs s.2 row), C.pl s.2 row) := run_split row s.1 s.2
theorem pl_snoc {C : Cod} : ∀ (r : List Nat) (p : Int) (k : Nat), C.pl p (r ++ [k]) = C.plc (C.pl p r) k
  | [], _, _ => rfl
  | j :: r, p, k => pl_snoc r (C.plc p j) k
theorem chs_snoc {C : Cod} : ∀ (r : List Nat) (p : Int) (k : Nat), C.chs p (r ++ [k]) = C.chs p r ++ [C.chg k (C.pl p r).toNat]
  | [], _, _ => rfl
  | j :: r, p, k => congrArg (C.chg j p.toNat :: ·) (chs_snoc r (C.plc p j) k)
theorem chs_len {C : Cod} : ∀ (r : List Nat) (p : Int), (C.chs p r).length = r.length
  | [], _ => rfl
  | _ :: r, _ => congrArg (· + 1) (chs_len r _)
theorem lv_snoc {C : Cod} : ∀ (r : List Int) (l c : Int), C.lv l (r ++ [c]) = C.lvc (C.lv l r) c
  | [], _, _ => rfl
  | j :: r, l, c => lv_snoc r (C.lvc l j) c
def Cod.pIn (C : Cod) (p : Int) : Prop := 0 ≤ p ∧ p ≤ (C.steps.length : Int) - 1
def Cod.lIn (C : Cod) (l : Int) : Prop := C.low ≤ l ∧ l ≤ C.high
theorem plc_in {C : Cod} (O : C.Ok) (p : Int) (k : Nat) : C.pIn (C.plc p k) := lim_in (by have := O.s1; omega)
theorem lvc_in {C : Cod} (O : C.Ok) (l c : Int) : C.lIn (C.lvc l c) := lim_in (by have := O.l2; have := O.h1; omega)
theorem pl_in {C : Cod} (O : C.Ok) : ∀ (r : List Nat) {p : Int}, C.pIn p → C.pIn (C.pl p r)
  | [], _, h => h
  | k :: r, p, _ => pl_in O r (plc_in O p k)
theorem lv_in {C : Cod} (O : C.Ok) : ∀ (r : List Int) {l : Int}, C.lIn l → C.lIn (C.lv l r)
  | [], _, h => h
  | c :: r, l, _ => lv_in O r (lvc_in O l c)
theorem lim_mono {a b lo hi : Int} (h : a ≤ b) (hl : lo ≤ hi) : lim a lo hi ≤ lim b lo hi := by
  unfold lim
  split <;> split <;> (try split) <;> omega
theorem lim_step {a b lo hi : Int} (h : a ≤ b) (h1 : b ≤ a + 1) (hl : lo ≤ hi) : lim b lo hi ≤ lim a lo hi + 1 := by
  unfold lim
  split <;> split <;> (try split) <;> omega
theorem div_next {a f : Int} (hf : 2 ≤ f) : (a + 1) / f ≤ a / f + 1 := by
  have h : (a + f) / f = a / f + 1 := Int.add_ediv_of_dvd_right (Int.dvd_refl f) |>.trans (by rw [Int.ediv_self (by omega)])
  rw [← h]
  exact Int.ediv_le_ediv (by omega) (by omega)
theorem rnd_next {a f : Int} (hf : 2 ≤ f) : rnd a f ≤ rnd (a + 1) f ∧ rnd (a + 1) f ≤ rnd a f + 1 := by
  unfold rnd
  split
  · rename_i h
    rw [Int.fdiv_eq_ediv_of_nonneg _ (by omega)]
    split
    · rw [Int.fdiv_eq_ediv_of_nonneg _ (by omega)]
      have h1 := div_next (a := -(a + 1)) hf
      have h2 : -(a + 1) / f ≤ -a / f := Int.ediv_le_ediv (by omega) (by omega)
      rw [show -(a + 1) + 1 = -a by omega] at h1
      omega
    · rw [Int.fdiv_eq_ediv_of_nonneg _ (by omega)]
      have e : a = -1 := by omega
      subst e
      have h0 : (0 : Int) / f = 0 := Int.zero_ediv f
      have h1 : (1 : Int) / f = 0 := Int.ediv_eq_zero_of_lt (by omega) (by omega)
      simp [h0, h1]
  · rename_i h
    rw [if_neg (by omega), Int.fdiv_eq_ediv_of_nonneg _ (by omega), Int.fdiv_eq_ediv_of_nonneg _ (by omega)]
    exact ⟨Int.ediv_le_ediv (by omega) (by omega), div_next hf⟩
theorem fdd_next {a f : Int} (hf : f = 0 ∨ 2 ≤ f) : fdd a f ≤ fdd (a + 1) f ∧ fdd (a + 1) f ≤ fdd a f + 1 := by
  unfold fdd
  split
  · omega
  · have := rnd_next (a := a) (f := f) (by omega)
    omega
theorem lvc_next {C : Cod} (O : C.Ok) (l c : Int) : C.lvc l c ≤ C.lvc (l + 1) c ∧ C.lvc (l + 1) c ≤ C.lvc l c + 1 := by
  have h := fdd_next (a := l) (f := C.fade) (by have := O.f1; omega)
  have hl : C.low ≤ C.high := by have := O.l2; have := O.h1; omega
  exact ⟨lim_mono (by omega) hl, lim_step (by omega) (by omega) hl⟩
theorem mono_of_next {f : Int → Int} (h : ∀ a, f a ≤ f (a + 1)) {a b : Int} (hab : a ≤ b) : f a ≤ f b := by
  obtain ⟨n, rfl⟩ : ∃ n : Nat, b = a + n := ⟨(b - a).toNat, by omega⟩
  clear hab
  induction n with
  | zero => simp
  | succ n ih =>
    have := h (a + n)
    rw [show a + ((n + 1 : Nat) : Int) = a + n + 1 by omega]
    omega
theorem lv_next {C : Cod} (O : C.Ok) : ∀ (r : List Int) (l m : Int), l ≤ m → m ≤ l + 1 → C.lv l r ≤ C.lv m r ∧ C.lv m r ≤ C.lv l r + 1
  | [], l, m, h1, h2 => ⟨h1, h2⟩
  | c :: r, l, m, h1, h2 => by
    have h : m = l ∨ m = l + 1 := by omega
    rcases h with e | e
    · subst e
      exact ⟨Int.le_refl _, by omega⟩
    · subst e
      have := lvc_next O l c
      exact lv_next O r _ _ this.1 this.2
theorem lv_mono {C : Cod} (O : C.Ok) (r : List Int) {a b : Int} (h : a ≤ b) : C.lv a r ≤ C.lv b r :=
  mono_of_next (f := fun l => C.lv l r) (fun a => (lv_next O r a (a + 1) (by omega) (by omega)).1) h
theorem pl_mono {C : Cod} (O : C.Ok) : ∀ (r : List Nat) {a b : Int}, a ≤ b → C.pl a r ≤ C.pl b r
  | [], _, _, h => h
  | k :: r, a, b, h => pl_mono O r (lim_mono (by omega) (by have := O.s1; omega))
/-- without a fade: three integers tell the map -/
theorem lv_limits {C : Cod} (O : C.Ok) (h0 : C.fade = 0) (l : Int) (hl : C.lIn l) : ∀ (r : List Int),
    C.lv l r = lim (l + r.sum) (C.lv C.low r) (C.lv C.high r) := by
  have key : ∀ (n : Nat) (r : List Int), r.length = n → C.lv l r = lim (l + r.sum) (C.lv C.low r) (C.lv C.high r) ∧ C.lv C.low r ≤ C.lv C.high r := by
    intro n
    induction n with
    | zero =>
      intro r hr
      have e : r = [] := List.length_eq_zero_iff.mp hr
      subst e
      have := hl.1
      have := hl.2
      refine ⟨?_, by show C.low ≤ C.high; omega⟩
      show l = lim (l + 0) C.low C.high
      unfold lim
      rw [if_neg (by omega), if_neg (by omega)]
      omega
    | succ n ih =>
      intro r hr
      obtain ⟨q, c, rfl⟩ : ∃ q c, r = q ++ [c] := ⟨r.dropLast, r.getLast (by intro e; rw [e] at hr; cases hr), (List.dropLast_concat_getLast _).symm⟩
      have hq : q.length = n := by simp at hr; exact hr
      obtain ⟨e, hle⟩ := ih q hq
      rw [lv_snoc, lv_snoc, lv_snoc, e]
      have hs : (q ++ [c]).sum = q.sum + c := by simp
      rw [hs]
      unfold Cod.lvc fdd
      rw [if_pos h0, if_pos h0, if_pos h0]
      have hlh : C.low ≤ C.high := by have := O.l2; have := O.h1; omega
      generalize C.lv C.low q = A at *
      generalize C.lv C.high q = B at *
      generalize q.sum = S
      refine ⟨?_, lim_mono (by omega) hlh⟩
      unfold lim
      (repeat' split) <;> omega
  exact fun r => (key r.length r rfl).1
theorem lv_lim_le {C : Cod} (O : C.Ok) (r : List Int) : C.lv C.low r ≤ C.lv C.high r := lv_mono O r (by have := O.l2; have := O.h1; omega)
/-! ### repetitions -/
def itr (f : Int → Int) : Nat → Int → Int
  | 0, x => x
  | n + 1, x => f (itr f n x)
theorem itr_in {f : Int → Int} {lo hi x : Int} (hf : ∀ y, lo ≤ y ∧ y ≤ hi → lo ≤ f y ∧ f y ≤ hi) (hx : lo ≤ x ∧ x ≤ hi) : ∀ n, lo ≤ itr f n x ∧ itr f n x ≤ hi
  | 0 => hx
  | n + 1 => hf _ (itr_in hf hx n)
theorem itr_le {f : Int → Int} {lo hi x : Int} (hf : ∀ y, lo ≤ y ∧ y ≤ hi → lo ≤ f y ∧ f y ≤ hi) (hm : ∀ a b, a ≤ b → f a ≤ f b) (hx : lo ≤ x ∧ x ≤ hi)
    {n : Nat} (h : ∀ j < n, itr f (j + 1) x ≠ itr f j x) : (n : Int) ≤ hi - lo := by
  rcases Int.le_total x (f x) with hd | hd
  · have up : ∀ j, itr f j x ≤ itr f (j + 1) x := by
      intro j
      induction j with
      | zero => exact hd
      | succ j ih => exact hm _ _ ih
    have : ∀ j ≤ n, x + (j : Int) ≤ itr f j x := by
      intro j
      induction j with
      | zero => intro _; show x + 0 ≤ x; omega
      | succ j ih =>
        intro hj
        have h1 := ih (by omega)
        have h2 := up j
        have h3 := h j (by omega)
        omega
    have h1 := this n (Nat.le_refl _)
    have h2 := itr_in hf hx n
    omega
  · have dn : ∀ j, itr f (j + 1) x ≤ itr f j x := by
      intro j
      induction j with
      | zero => exact hd
      | succ j ih => exact hm _ _ ih
    have : ∀ j ≤ n, itr f j x ≤ x - (j : Int) := by
      intro j
      induction j with
      | zero => intro _; show x ≤ x - 0; omega
      | succ j ih =>
        intro hj
        have h1 := ih (by omega)
        have h2 := dn j
        have h3 := h j (by omega)
        omega
    have h1 := this n (Nat.le_refl _)
    have h2 := itr_in hf hx n
    omega
theorem itr_rest {f : Int → Int} {x : Int} {n : Nat} (h : itr f (n + 1) x = itr f n x) : ∀ k, itr f (n + k) x = itr f n x
  | 0 => rfl
  | k + 1 => by
    show f (itr f (n + k) x) = _
    rw [itr_rest h k]
    exact h
def Cod.rep (C : Cod) (row : List Nat) (s : Int × Int) : Nat → Int × Int
  | 0 => s
  | n + 1 => C.run (Cod.rep C row s n) row
theorem rep_St {C : Cod} (O : C.Ok) {row : List Nat} {s : Int × Int} (h : C.St s) : ∀ n, C.St (C.rep row s n)
  | 0 => h
  | n + 1 => run_St O row (rep_St O h n)
theorem rep_pl {C : Cod} {row : List Nat} {s : Int × Int} : ∀ n, (C.rep row s n).2 = itr (fun p => C.pl p row) n s.2
  | 0 => rfl
  | n + 1 => by
    show (C.run (C.rep row s n) row).2 = C.pl (itr (fun p => C.pl p row) n s.2) row
    rw [run_eq, ← rep_pl n]
theorem rep_lv {C : Cod} {row : List Nat} {s : Int × Int} {P : Nat} (hP : (C.rep row s (P + 1)).2 = (C.rep row s P).2) :
    ∀ j, C.rep row s (P + j) = (itr (fun l => C.lv l (C.chs (C.rep row s P).2 row)) j (C.rep row s P).1, (C.rep row s P).2)
  | 0 => rfl
  | j + 1 => by
    show C.run (C.rep row s (P + j)) row = _
    rw [rep_lv hP j, run_eq]
    have e : C.pl (C.rep row s P).2 row = (C.rep row s P).2 := by
      have : (C.run (C.rep row s P) row).2 = (C.rep row s P).2 := hP
      rw [run_eq] at this
      exact this
    rw [e]
    rfl
theorem rep_rest {C : Cod} {row : List Nat} {s : Int × Int} {T : Nat} (h : C.rep row s (T + 1) = C.rep row s T) : ∀ k, C.rep row s (T + k) = C.rep row s T
  | 0 => rfl
  | k + 1 => by
    show C.run (C.rep row s (T + k)) row = _
    rw [rep_rest h k]
    exact h
/-- the places come to rest behind just P repetitions -/
structure Rests (C : Cod) (row : List Nat) (s : Int × Int) (P : Nat) : Prop where
  mv : ∀ j < P, (C.rep row s (j + 1)).2 ≠ (C.rep row s j).2
  st : (C.rep row s (P + 1)).2 = (C.rep row s P).2
/-- the row settles behind just T repetitions, the place with P of them -/
structure Settles (C : Cod) (row : List Nat) (s : Int × Int) (T P : Nat) : Prop where
  mv : ∀ j < T, C.rep row s (j + 1) ≠ C.rep row s j
  st : C.rep row s (T + 1) = C.rep row s T
  pl : (C.rep row s (P + 1)).2 = (C.rep row s P).2
  pT : P ≤ T
  pm : (P : Int) ≤ (C.steps.length : Int) - 1
  tm : (T : Int) ≤ (C.steps.length : Int) - 1 + (C.high - C.low)
theorem places_le {C : Cod} (O : C.Ok) {row : List Nat} {s : Int × Int} (hs : C.St s) {n : Nat} (h : ∀ j < n, (C.rep row s (j + 1)).2 ≠ (C.rep row s j).2) : (n : Int) ≤ (C.steps.length : Int) - 1 := by
  have := itr_le (f := fun p => C.pl p row) (lo := 0) (hi := (C.steps.length : Int) - 1) (x := s.2) (fun y hy => pl_in O row hy) (fun a b hab => pl_mono O row hab) ⟨hs.2.2.1, by have := hs.2.2.2; omega⟩
    (n := n) (fun j hj => by rw [← rep_pl, ← rep_pl]; exact h j hj)
  omega
theorem levels_le {C : Cod} (O : C.Ok) {cs : List Int} {l : Int} (hl : C.lIn l) {n : Nat} (h : ∀ j < n, itr (fun l => C.lv l cs) (j + 1) l ≠ itr (fun l => C.lv l cs) j l) : (n : Int) ≤ C.high - C.low :=
  itr_le (f := fun l => C.lv l cs) (fun _ hy => lv_in O cs hy) (fun _ _ hab => lv_mono O cs hab) hl h
theorem settles_of {C : Cod} (O : C.Ok) {row : List Nat} {s : Int × Int} (hs : C.St s) {P Q : Nat} (r : Rests C row s P)
    (mv : ∀ j < Q, itr (fun l => C.lv l (C.chs (C.rep row s P).2 row)) (j + 1) (C.rep row s P).1 ≠ itr (fun l => C.lv l (C.chs (C.rep row s P).2 row)) j (C.rep row s P).1)
    (st : itr (fun l => C.lv l (C.chs (C.rep row s P).2 row)) (Q + 1) (C.rep row s P).1 = itr (fun l => C.lv l (C.chs (C.rep row s P).2 row)) Q (C.rep row s P).1) : Settles C row s (P + Q) P := by
  have h1 := places_le O hs r.mv
  have hS := rep_St O (row := row) hs P
  have h2 := levels_le O ⟨hS.1, hS.2.1⟩ mv
  refine ⟨fun j hj e => ?_, ?_, r.st, by omega, h1, by omega⟩
  · rcases Nat.lt_or_ge j P with h | h
    · exact r.mv j h (by rw [e])
    · obtain ⟨i, rfl⟩ : ∃ i, j = P + i := ⟨j - P, by omega⟩
      have e' : C.rep row s (P + (i + 1)) = C.rep row s (P + i) := e
      rw [rep_lv r.st, rep_lv r.st] at e'
      exact mv i (by omega) (congrArg Prod.fst e')
  · show C.rep row s (P + (Q + 1)) = _
    rw [rep_lv r.st, rep_lv r.st, st]
end My

namespace My
open PySem PySem.Spec PyProof.Rows L2
theorem same_put {H H' : Hp} {p : Addr} {o : HO} (s : Same H H') (h : H p = none) : Same H (upd H' p o) := fun b u e => by
  rw [upd_ne (ne_of_none e h)]
  exact s b u e
theorem cut2 (a b c d e : V) : cutV [a, b, c, d, e] none (some 2) = [a, b] := rfl
theorem cut3 (a b c d e : V) : cutV [a, b, c, d, e] none (some 3) = [a, b, c] := rfl
def Cod.reps (C : Cod) (row : List Nat) (s : Int × Int) (n : Nat) : List (Int × Int) := (List.range n).map (C.rep row s)
theorem reps_succ {C : Cod} {row : List Nat} {s : Int × Int} (n : Nat) : C.reps row s (n + 1) = C.reps row s n ++ [C.rep row s n] := by
  unfold Cod.reps
  rw [List.range_succ, List.map_append]
  rfl
theorem reps_len {C : Cod} {row : List Nat} {s : Int × Int} (n : Nat) : (C.reps row s n).length = n := by
  unfold Cod.reps
  rw [List.length_map, List.length_range]
/-- what one more repetition makes of a level, without a fade by three integers -/
def Cod.lim3 (C : Cod) (cs : List Int) : Int × Int × Int := (cs.sum, C.lv C.low cs, C.lv C.high cs)
section
variable {P : Program} {w : World} {K : PySem.W.Frag} {mg : Str → Option Value} {base : Heap}
def sp_row_behind (K : PySem.W.Frag) : Sp := fun vs H Q _ => ∃ (c r x : V) (C : Cod) (row : List Nat) (s : Int × Int), vs = [c, r, x] ∧ C.Ok ∧ Dp K H c C.dat ∧ Dp K H r (rowI row) ∧ (∀ k ∈ row, k < C.moves.length) ∧ Dp K H x (pairI s) ∧ C.St s ∧
  ∀ z H', Same H H' → Dp K H' z (pairI (C.run s row)) → Q z H'
theorem ok_state_behind_row (T : Txt K mg) : FnOk P w K mg base CX0 5 T.f_state_behind_row T.d_state_behind_row ["coder", "row", "state"] (sp_row_behind K) := by
  refine T.F_state_behind_row.ok sc_state_behind_row (fun vs H Q E h => ?_) (fun cdv A outer s H vs Q E hr h => ?_)
  · obtain ⟨c, r, x, C, row, s, rfl, _⟩ := h
    rfl
  · obtain ⟨c, r, x, C, row, st, rfl, O, hc, hrow, R, hx, hst, q⟩ := h
    refine ⟨_,
(pss_cons (ps_set (i := 3) sc_state_behind_row.nd rfl (Or.inl rfl) (pv 2))
      (pss_cons (ps_for PassesOwn.never rfl (pi_tup (pv 1)) (pg_name (i := 4) sc_state_behind_row.nd rfl (Or.inl rfl)) (pss_one (ps_set (i := 3) sc_state_behind_row.nd rfl (Or.inl rfl) (pe_call (ok_state_behind T) (hr.mono (by decide)) (by rfl) T.g_state_behind T.F_state_behind.kp T.b_state_behind .nil pass0 (pa_cons (pv 0) (pa_cons (pv 3) (pa_cons (pv 4) pa_nil)))))))
      (pss_one (ps_ret (pv 3)))))
, ?_⟩
    obtain ⟨a, rfl, ha⟩ := row_at hrow
    refine ⟨x, rfl, .ref a, rfl, a, rfl, ⟨_, ha⟩, ?_⟩
    refine for_tup (K := K) (a := a) (xs := rowV row) (fun i σ H' => ∃ z y, σ = [some c, some (.ref a), some x, some z, y] ∧ Same H H' ∧ Dp K H' z (pairI (C.run st (row.take i)))) ⟨x, none, rfl, Same.refl H, hx⟩ ?_ ?_ ?_
    · rintro i σ H' _ ⟨_, _, _, s2, _⟩
      exact same_tup s2 ha
    · rintro i v σ H' hi ⟨z, y, rfl, s2, hz⟩
      obtain ⟨k, hk, rfl⟩ := rowV_get hi
      refine ⟨c, rfl, z, rfl, .int k, rfl, c, z, C, _, k, rfl, O, dp_same s2 _ _ hc, hz, run_St O _ hst, R k (List.mem_of_getElem? hk), fun p hp => ?_⟩
      refine ⟨.ref p, _, rfl, s2.trans (same_new hp), ?_⟩
      rw [take_snoc hk, run_snoc]
      exact dp_mkpair upd_tup
    · rintro σ H' ⟨z, y, rfl, s2, hz⟩
      have e : row.take (rowV row).length = row := by
        unfold rowV
        rw [List.length_map, List.take_length]
      rw [e] at hz
      exact ⟨z, rfl, q z H' s2 hz⟩
end
end My

namespace My
open PySem PySem.Spec PyProof.Rows L2
/-! ### what is right passes -/
def rowD (C : Cod) : PyData → Bool
  | .tuple ds => decide (ds.length ≤ 2000) && ds.all fun d => btw d 0 ((C.moves.length : Int) - 1)
  | _ => false
theorem Cod.Row.ok {C : Cod} {r : List Nat} (h : C.Row r) : rowD C (rowI r) = true := by
  show (decide _ && _) = true
  rw [decide_eq_true (by rw [List.length_map]; exact h.len), Bool.true_and, List.all_eq_true]
  intro d hd
  obtain ⟨k, hk, rfl⟩ := List.mem_map.mp hd
  have := h.lt k hk
  exact btw_in (by omega) (by omega)
section
variable {P : Program} {w : World} {K : PySem.W.Frag} {mg : Str → Option Value} {base : Heap}
end
end My

/-! refusals of rows and states -/
namespace My
open PySem PySem.Spec PyProof.Rows L2
/-- a thing handed in as a row: a tuple of data, or anything but a tuple -/
def Th (K : PySem.W.Frag) (H : Hp) (x : V) : Option (List PyData) → Prop
  | none => ∃ T : String, TyX K H x (.type T) ∧ PySem.W.kitOne K (.type T) (.type "tuple") = some false
  | some ds => Dp K H x (.tuple ds)
theorem Th.same {K : PySem.W.Frag} {H H' : Hp} {x : V} {r : Option (List PyData)} (s : Same H H') (h : Th K H x r) : Th K H' x r := by
  cases r with
  | some ds => exact dp_same s _ _ h
  | none =>
    obtain ⟨T, h1, h2⟩ := h
    refine ⟨T, ?_, h2⟩
    cases h1 with
    | base h =>
      cases h with
      | non => exact .base .non
      | bl b => exact .base (.bl b)
      | int i => exact .base (.int i)
      | str x => exact .base (.str x)
      | flt x => exact .base (.flt x)
      | lst e => exact .base (.lst (s _ _ e))
      | frz e => exact .base (.frz (s _ _ e))
      | tup e => exact .base (.tup (s _ _ e))
      | dK e => exact .base (.dK (s _ _ e))
      | dT e => exact .base (.dT (s _ _ e))
    | byt b => exact .byt b
    | set e => exact .set (s _ _ e)
    | kList e c => exact .kList e c
    | kTuple e c => exact .kTuple e c
    | kDict e c => exact .kDict e c
    | fTuple e => exact .fTuple (s _ _ e)
    | fDict e => exact .fDict (s _ _ e)
def codeD (C : Cod) (d : PyData) : Bool := btw d 0 ((C.moves.length : Int) - 1)
/-- the place of the first thing that cannot stand in a row -/
def rowBad (C : Cod) : Nat → List PyData → Option Nat
  | _, [] => none
  | i, d :: r => if (decide (i = 2000) || !codeD C d) = true then some i else rowBad C (i + 1) r
theorem rowBad_step {C : Cod} {ds : List PyData} {i : Nat} {d : PyData} (h : ds[i]? = some d) : rowBad C i (ds.drop i) = if (decide (i = 2000) || !codeD C d) = true then some i else rowBad C (i + 1) (ds.drop (i + 1)) := by
  have hi := (List.getElem?_eq_some_iff.mp h).1
  have e : ds.drop i = d :: ds.drop (i + 1) := by
    rw [List.drop_eq_getElem_cons hi]
    rw [List.getElem?_eq_getElem hi] at h
    rw [Option.some.inj h]
  rw [e]
  rfl
def rowRes (C : Cod) : Option (List PyData) → Option (Int × Int)
  | none => some (0, 0)
  | some ds => (rowBad C 0 ds).map fun (i : Nat) => ((1 : Int), (i : Int) + 1)
theorem rowRes_bad {C : Cod} {ds : List PyData} {i : Nat} (h : rowBad C 0 ds = some i) : rowRes C (some ds) = some (1, (i : Int) + 1) := by
  show (rowBad C 0 ds).map _ = _
  rw [h]
  rfl
theorem rowRes_ok {C : Cod} {ds : List PyData} (h : rowBad C 0 ds = none) : rowRes C (some ds) = none := by
  show (rowBad C 0 ds).map _ = _
  rw [h]
  rfl
theorem codeD_out {C : Cod} {d : PyData} (h : codeD C d = true) : ∃ k : Nat, d = .int (k : Int) ∧ k < C.moves.length := by
  cases d with
  | int n =>
    obtain ⟨a, b⟩ := Bool.and_eq_true_iff.mp (show (decide (0 ≤ n) && decide (n ≤ (C.moves.length : Int) - 1)) = true from h)
    have a := of_decide_eq_true a
    have b := of_decide_eq_true b
    exact ⟨n.toNat, by congr 1; omega, by omega⟩
  | _ => cases h
theorem rowBad_none {C : Cod} : ∀ {ds : List PyData} {i : Nat}, i ≤ 2000 → rowBad C i ds = none → i + ds.length ≤ 2000 ∧ ∃ row : List Nat, ds = row.map (fun k : Nat => PyData.int (k : Int)) ∧ ∀ k ∈ row, k < C.moves.length
  | [], i, hi, _ => ⟨hi, [], rfl, fun _ h => by cases h⟩
  | d :: r, i, hi, h => by
    replace h : (if (decide (i = 2000) || !codeD C d) = true then some i else rowBad C (i + 1) r) = none := h
    by_cases e : (decide (i = 2000) || !codeD C d) = true
    · rw [if_pos e] at h
      cases h
    · rw [if_neg e] at h
      have e : (decide (i = 2000) || !codeD C d) = false := by
        cases hb : (decide (i = 2000) || !codeD C d) with
        | true => exact absurd hb e
        | false => rfl
      obtain ⟨e1, e2⟩ := Bool.or_eq_false_iff.mp e
      have e1 := of_decide_eq_false e1
      have e2 : codeD C d = true := by
        cases hb : codeD C d with
        | true => rfl
        | false => rw [hb] at e2; cases e2
      obtain ⟨k, rfl, hk⟩ := codeD_out e2
      obtain ⟨h1, row, rfl, h2⟩ := rowBad_none (by omega) h
      refine ⟨by rw [List.length_cons]; omega, k :: row, rfl, fun j hj => ?_⟩
      rcases List.mem_cons.mp hj with z | z
      · rw [z]; exact hk
      · exact h2 j z
theorem rowRes_row {C : Cod} {r : Option (List PyData)} (h : rowRes C r = none) : ∃ row : List Nat, r = some (row.map (fun k : Nat => PyData.int (k : Int))) ∧ C.Row row := by
  cases r with
  | none => cases h
  | some ds =>
    have h : (rowBad C 0 ds).map (fun (i : Nat) => ((1 : Int), (i : Int) + 1)) = none := h
    cases e : rowBad C 0 ds with
    | some i => rw [e] at h; cases h
    | none =>
      obtain ⟨h1, row, rfl, h2⟩ := rowBad_none (by omega) e
      rw [List.length_map] at h1
      exact ⟨row, rfl, by omega, h2⟩
theorem stateD_out {C : Cod} {d : PyData} (h : stateD C d = true) : ∃ s, d = pairI s ∧ C.St s := by
  cases d with
  | tuple ds =>
    match ds, h with
    | [a, b], h =>
      obtain ⟨h1, h2⟩ := Bool.and_eq_true_iff.mp (show (btw a C.low C.high && btw b 0 ((C.steps.length : Int) - 1)) = true from h)
      obtain ⟨n, rfl, a1, a2⟩ := btw_out h1
      obtain ⟨p, rfl, b1, b2⟩ := btw_out h2
      exact ⟨(n, p), rfl, a1, a2, b1, by show p < C.steps.length; omega⟩
  | _ => cases h
/-- a refusal with BadRow(i, j): a new dict, all else stands -/
def RowE (C : Addr) (H : Hp) (E : XK) (i j : Int) : Prop := ∀ d H', Same H H' → H' d = some (.xd [("word", V.int j), ("row", V.int i)]) → E (.ref C) (some d) H'
theorem RowE.same {C : Addr} {H H' : Hp} {E : XK} {i j : Int} (s : Same H H') (h : RowE C H E i j) : RowE C H' E i j := fun d H'' s' hd => h d H'' (s.trans s') hd
theorem rowE_mk {C : Addr} {H : Hp} {E : XK} {i j : Int} (h : RowE C H E i j) {a d : Addr} {o1 o2 o3 o4 : HO} (ha : H a = none) (hd : upd H a o1 d = none) (n : d ≠ a) :
    E (.ref C) (some d) (upd (del (upd (upd (upd (upd H a o1) d o2) a o3) d o4) a) d (.xd [("word", V.int j), ("row", V.int i)])) := by
  rw [made2 ha n]
  have h0 : H d = none := (upd_ne n).symm.trans hd
  exact h d _ (same_new h0) upd_same
section
variable {P : Program} {w : World} {K : PySem.W.Frag} {mg : Str → Option Value} {base : Heap}
theorem okDX {x qual : Str} {params : Arguments} {body : List Stmt} {scope : Scope} {f : Addr} {fd : FuncData} {N ps : List Str} {k : Nat} {sp : Sp}
    (F : ∃ q, FunD K x qual params body scope [] [("state", V.ref q)] f fd) (S : FnScope N ps scope) (len : ∀ vs H Q E, sp vs H Q E → vs.length = ps.length)
    (hbody : ∀ (cdv : Value) (A : Around) (outer : List Env) (s : Shared) (H : Hp) (vs : List V) (Q : VK) (E : XK), Room k (A.deeper (envOfC qual scope s.heap.objs.size f cdv)) → sp vs H Q E →
      ∃ t, PSs (cxOf (L2.CX P w) P w K mg base N qual scope f cdv A outer s H E) body t ∧ t { nx := fun _ H' => Q .non H', rt := Q } (start N vs) H) : FnOk P w K mg base (L2.CX P w) (k + 1) f fd ps sp := by
  obtain ⟨q, F⟩ := F
  exact F.ok S len hbody
def sp_need_row (K : PySem.W.Frag) (BR : Addr) : Sp := fun vs H Q E => ∃ (c x : V) (C : Cod) (r : Option (List PyData)), vs = [c, x] ∧ Dp K H c C.dat ∧ Th K H x r ∧
  (rowRes C r = none → ∀ H', Same H H' → Q .non H') ∧ (∀ i j, rowRes C r = some (i, j) → RowE BR H E i j)
theorem ok_need_row (T : Txt K mg) : FnOk P w K mg base (L2.CX P w) 4 T.f_need_row T.d_need_row ["coder", "thing"] (sp_need_row K T.C_BadRow) := by
  refine T.F_need_row.okX sc_need_row (fun vs H Q E h => ?_) (fun cdv A outer s H vs Q E hr h => ?_)
  · obtain ⟨c, x, C, r, rfl, _⟩ := h
    rfl
  · obtain ⟨c, x, C, r, rfl, hc, hx, q1, q2⟩ := h
    refine ⟨_,
(pss_cons (ps_if (pt_not (pt_val (pe_callB (call_isi) (by rfl) T.z_isinstance (by decide +kernel) (pa_cons (pv 1) (pa_cons (pe_bltn (v := .ty "tuple") (by rfl) T.z_tuple (by decide +kernel) rfl) pa_nil))))) (pss_one (ps_raise rfl (takes_of rfl rfl rfl rfl) (pmk_oex T.o_BadRow T.i_BadRow T.t_BadRow (oki_BadRow T) (hr.mono (by decide)) T.bi_BadRow .nil pass0 (by rfl) T.g_BadRow (pa_cons pe_int (pa_cons pe_int pa_nil))))) pss_nil)
      (pss_one (ps_for (passes_of rfl) rfl (My.pi_enumT (by rfl) T.z_enumerate (pa_cons (pv 1) pa_nil)) (pg_tup (by rfl) (pgs_cons (pg_name (i := 2) sc_need_row.nd rfl (Or.inl rfl)) (pgs_cons (pg_name (i := 3) sc_need_row.nd rfl (Or.inl rfl)) pgs_nil))) (pss_one (ps_if (PW.pt (pw_or (pt_cmpR op_eq (pv 2) (pe_glob (v := .int 2000) (by rfl) T.g_MOST_CODES ⟨_, rfl⟩) (nomark _)) (pw_or1 (pt_not (pt_val (pe_call (ok_is_code T) (hr.mono (by decide)) (by rfl) T.g_is_code T.F_is_code.kp T.b_is_code .nil pass0 (pa_cons (pv 0) (pa_cons (pv 3) pa_nil)))))))) (pss_one (ps_raise rfl (takes_of rfl rfl rfl rfl) (pmk_oex T.o_BadRow T.i_BadRow T.t_BadRow (oki_BadRow T) (hr.mono (by decide)) T.bi_BadRow .nil pass0 (by rfl) T.g_BadRow (pa_cons pe_int (pa_cons (pe_op op_add (pv 2) pe_int) pa_nil))))) pss_nil)))))
, ?_⟩
    cases r with
    | none =>
      obtain ⟨TT, t1, t2⟩ := hx
      refine ⟨x, rfl, x, .ty "tuple", _, _, _, rfl, .ty _, t1, t2, _, rfl, ?_⟩
      refine iteT ?_
      refine ⟨by decide, fun a ha => ⟨a, .int 0, .int 0, rfl, upd_same, fun d hd n => ⟨rfl, d, _, (upd_ne n.symm).trans upd_same, upd_same, (upd_ne n).symm.trans hd, rowE_mk (q2 0 0 rfl) ha hd n⟩⟩⟩
    | some ds =>
      have hd : Dp K H x (.tuple ds) := hx
      refine ⟨x, rfl, x, .ty "tuple", _, _, _, rfl, .ty _, tyx hd, kitT _, _, rfl, ?_⟩
      refine iteF ?_
      obtain ⟨a, xs, rfl, ha, hds⟩ := dp_tup hd
      have hlx := dpAll_len hds
      refine ⟨.ref a, rfl, a, xs, rfl, ha, ?_⟩
      refine for_enumT (K := K) (a := a) (xs := xs) (fun i σ H' => ∃ y1 y2, σ = [some c, some (.ref a), y1, y2] ∧ Same H H' ∧ rowBad C 0 ds = rowBad C i (ds.drop i)) ⟨none, none, rfl, Same.refl H, rfl⟩ ?_ ?_ ?_
      · rintro i σ H' _ ⟨_, _, _, s2, _⟩
        exact same_tup s2 ha
      · rintro i v σ H' p hi ⟨y1, y2, rfl, s2, hbad⟩ hp
        obtain ⟨dv, hdv, hv⟩ := dpAll_get hds hi
        rw [rowBad_step hdv] at hbad
        have s3 := s2.trans (same_new (o := .tup [.int (i : Nat), v]) hp)
        refine ⟨p, _, rfl, upd_tup, rfl, _, _, rfl, _, _, rfl, rfl, ?_⟩
        generalize upd H' p (.tup [.int (i : Nat), v]) = H2 at s3
        have raise : ∀ H3, Same H H3 → rowBad C 0 ds = some i → (([V.int 1, V.int ((i : Int) + 1)] : List V).length ≤ 1000 ∧ ∀ a', H3 a' = none →
            sp_init2 T.C_BadRow "row" "word" (.ref a' :: ([V.int 1, V.int ((i : Int) + 1)] ++ [])) (upd H3 a' (exo a' T.C_BadRow none)) (fun v H2 => v = .non ∧ ∃ (d : Addr) (fs : List (Str × V)), H2 a' = some (exo a' T.C_BadRow (some d)) ∧ H2 d = some (exd d fs) ∧ H3 d = none ∧
              E (.ref T.C_BadRow) (some d) (upd (del H2 a') d (.xd fs))) (fun _ _ _ => False)) := fun H3 s3 hb =>
          ⟨by show 2 ≤ 1000; decide, fun a' ha' => ⟨a', .int 1, .int ((i : Int) + 1), rfl, upd_same, fun d hd n => ⟨rfl, d, _, (upd_ne n.symm).trans upd_same, upd_same, (upd_ne n).symm.trans hd, rowE_mk ((q2 1 ((i : Int) + 1) (rowRes_bad hb)).same s3) ha' hd n⟩⟩⟩
        refine ⟨_, rfl, rfl, _, rfl, ?_⟩
        show if decide (V.int (i : Int) = V.int 2000) = true then _ else _
        by_cases e : i = 2000
        · have e1 : decide (V.int (i : Int) = V.int 2000) = true := by rw [e]; rfl
          rw [e1]
          refine iteT (iteT ?_)
          refine ⟨_, rfl, _, _, rfl, rfl, raise H2 s3 ?_⟩
          rw [hbad, decide_eq_true e]
          rfl
        · have e1 : decide (V.int (i : Int) = V.int 2000) = false := decide_eq_false fun z => by
            have := V.int.inj z
            omega
          rw [e1]
          refine iteF ?_
          refine ⟨_, rfl, _, rfl, c, v, C, dv, rfl, dp_same s3 _ _ hc, dp_same s3 _ _ hv, fun H3 s4 => ⟨_, rfl, ?_⟩⟩
          rw [decide_eq_false e, Bool.false_or] at hbad
          cases hg : codeD C dv with
          | true =>
            rw [hg] at hbad
            have hg' : btw dv 0 ((C.moves.length : Int) - 1) = true := hg
            rw [hg']
            refine iteF ?_
            exact ⟨_, _, rfl, s3.trans s4, hbad⟩
          | false =>
            rw [hg] at hbad
            have hg' : btw dv 0 ((C.moves.length : Int) - 1) = false := hg
            rw [hg']
            refine iteT ?_
            exact ⟨_, rfl, _, _, rfl, rfl, raise H3 (s3.trans s4) hbad⟩
      · rintro σ H' ⟨_, _, rfl, s2, hbad⟩
        refine q1 (rowRes_ok ?_) H' s2
        rw [hbad, hlx, List.drop_length]
        rfl
/-- a refusal with OutOfPlace: the heap stands -/
def spNeed (K : PySem.W.Frag) (O : Addr) (f : Cod → PyData → Bool) : Sp := fun vs H Q E => ∃ (c x : V) (C : Cod) (d : PyData), vs = [c, x] ∧ Dp K H c C.dat ∧ Dp K H x d ∧
  (f C d = true → ∀ H', Same H H' → Q .non H') ∧ (f C d = false → ∀ H', Same H H' → E (.ref O) none H')
theorem ok_need_state (T : Txt K mg) : FnOk P w K mg base (L2.CX P w) 5 T.f_need_state T.d_need_state ["coder", "thing"] (spNeed K T.C_OutOfPlace stateD) := by
  refine T.F_need_state.okX sc_need_state (fun vs H Q E h => ?_) (fun cdv A outer s H vs Q E hr h => ?_)
  · obtain ⟨c, x, C, d, rfl, _⟩ := h
    rfl
  · obtain ⟨c, x, C, d, rfl, hc, hd, q1, q2⟩ := h
    refine ⟨_,
(pss_one (ps_if (pt_not (pt_val (pe_call (ok_is_state T) (hr.mono (by decide)) (by rfl) T.g_is_state T.F_is_state.kp T.b_is_state .nil pass0 (pa_cons (pv 0) (pa_cons (pv 1) pa_nil))))) (pss_one (ps_raise rfl (takes_of rfl rfl rfl rfl) (My.pmk0 T.o_OutOfPlace T.i_OutOfPlace T.t_OutOfPlace (oki_OutOfPlace T) (hr.mono (by decide)) T.bi_OutOfPlace T.g_OutOfPlace (pa_cons pe_str pa_nil)))) pss_nil))
, ?_⟩
    refine ⟨_, rfl, _, rfl, c, x, C, d, rfl, hc, hd, fun H1 s1 => ⟨_, rfl, ?_⟩⟩
    cases h0 : stateD C d with
    | true => exact iteF (q1 h0 H1 s1)
    | false =>
      refine iteT ?_
      refine ⟨by decide, fun a ha => ⟨a, _, rfl, upd_same, rfl, upd_same, ?_⟩⟩
      rw [del_new ha]
      exact q2 h0 H1 s1
end
end My

/-! _law_outcome(lambda: ..): what is raised is told. -/
namespace My
open PySem PySem.Spec PyProof.Rows L2 LamX
/-! rules within a lambda: the written part by its own name -/
theorem op_catAK {X : Cx} {K : PySem.W.Frag} (h : X.K = K := by rfl) : OpR X (binaryOp .Add) (rCatA K) := by
  subst h
  exact op_catA
theorem sl_tupAK {X : Cx} {K : PySem.W.Frag} (h : X.K = K := by rfl) : SlR X (rSlA K) := by
  subst h
  exact sl_tupA
def rListOf (K : PySem.W.Frag) : List V → Hp → VK → Prop := fun xs H Q => ∃ p ys, xs = [.ref p] ∧ (SqL K H p ys ∨ SqT K H p ys) ∧ ∀ l, H l = none → Q (.ref l) (upd H l (.lst ys))
theorem call_list_ofK {X : Cx} {K : PySem.W.Frag} (h : X.K = K := by rfl) : CallR X (.type "list") (rListOf K) := by
  subst h
  exact call_list_of
inductive Fl
  | coder (p n : PyData)
  | row (i j : PyData)
  | paper (p n : PyData)
  | byte (n : PyData)
  | great (n : PyData)
  | place
  | seam
  | nothing
def Fl.dat : Fl → PyData
  | .coder p n => .tuple [.str "coder", p, n]
  | .row i j => .tuple [.str "row", i, j]
  | .paper p n => .tuple [.str "paper", p, n]
  | .byte n => .tuple [.str "byte", n]
  | .great n => .tuple [.str "great", n]
  | .place => .tuple [.str "place", .none]
  | .seam => .tuple [.str "seam", .none]
  | .nothing => .tuple [.str "nothing", .none]
section
variable {P : Program} {w : World} {K : PySem.W.Frag} {mg : Str → Option Value} {base : Heap}
/-- what the exception of that class, with that dict, tells -/
def IsFl (T : Txt K mg) (cls : Value) (d : Option Addr) (H : Hp) : Fl → Prop
  | .coder p n => cls = .ref T.C_BadCoder ∧ ∃ dd vp vn, d = some dd ∧ H dd = some (.xd [("number", vn), ("part", vp)]) ∧ Dp K H vp p ∧ Dp K H vn n
  | .row p n => cls = .ref T.C_BadRow ∧ ∃ dd vp vn, d = some dd ∧ H dd = some (.xd [("word", vn), ("row", vp)]) ∧ Dp K H vp p ∧ Dp K H vn n
  | .great n => cls = .ref T.C_TooGreat ∧ ∃ dd vn, d = some dd ∧ H dd = some (.xd [("most", vn)]) ∧ Dp K H vn n
  | .place => cls = .ref T.C_OutOfPlace ∧ d = none
  | .seam => cls = .ref T.C_NoSeam ∧ d = none
  | .nothing => cls = .ref T.C_Nothing ∧ d = none
  | _ => False
def sp_law_fault (T : Txt K mg) : Sp := fun vs H Q _ => ∃ (a : Addr) (D : Addr) (d : Option Addr) (f : Fl), vs = [.ref a] ∧ Exc H a D d ∧ IsFl T (.ref D) d H f ∧ ∀ z H', Same H H' → Dp K H' z f.dat → Q z H'
theorem ok_law_fault (T : Txt K mg) : FnOk P w K mg base CX0 2 T.f__law_fault T.d__law_fault ["e"] (sp_law_fault T) := by
  refine T.F__law_fault.ok sc_law_fault (fun vs H Q E h => ?_) (fun cdv A outer s H vs Q E hr h => ?_)
  · obtain ⟨a, D, d, f, rfl, _⟩ := h
    rfl
  · obtain ⟨a, D, d, f, rfl, he, hf, kq⟩ := h
    refine ⟨_,
(pss_cons (ps_set (i := 1) sc_law_fault.nd rfl (Or.inl rfl) (pe_lst pa_nil))
      (pss_cons (ps_if (pt_val (pe_callB (My.call_isT) (by rfl) T.z_isinstance (by decide +kernel) (pa_cons (pv 0) (pa_cons (pe_glob (v := .ref T.C_BadCoder) (by rfl) T.g_BadCoder rfl) pa_nil)))) (pss_one (ps_expr (pe_bm PySem.F.plainAttrs_list PySem.F.slot_list_append PySem.F.type_list_append mt_append (pv 1) (pa_cons (pe_tup (pa_cons pe_str (pa_cons (My.pe_xfT (pv 0)) (pa_cons (My.pe_xfT (pv 0)) pa_nil)))) pa_nil)))) pss_nil)
      (pss_cons (ps_if (pt_val (pe_callB (My.call_isT) (by rfl) T.z_isinstance (by decide +kernel) (pa_cons (pv 0) (pa_cons (pe_glob (v := .ref T.C_BadRow) (by rfl) T.g_BadRow rfl) pa_nil)))) (pss_one (ps_expr (pe_bm PySem.F.plainAttrs_list PySem.F.slot_list_append PySem.F.type_list_append mt_append (pv 1) (pa_cons (pe_tup (pa_cons pe_str (pa_cons (My.pe_xfT (pv 0)) (pa_cons (My.pe_xfT (pv 0)) pa_nil)))) pa_nil)))) pss_nil)
      (pss_cons (ps_if (pt_val (pe_callB (My.call_isT) (by rfl) T.z_isinstance (by decide +kernel) (pa_cons (pv 0) (pa_cons (pe_glob (v := .ref T.C_BadPaper) (by rfl) T.g_BadPaper rfl) pa_nil)))) (pss_one (ps_expr (pe_bm PySem.F.plainAttrs_list PySem.F.slot_list_append PySem.F.type_list_append mt_append (pv 1) (pa_cons (pe_tup (pa_cons pe_str (pa_cons (My.pe_xfT (pv 0)) (pa_cons (My.pe_xfT (pv 0)) pa_nil)))) pa_nil)))) pss_nil)
      (pss_cons (ps_if (pt_val (pe_callB (My.call_isT) (by rfl) T.z_isinstance (by decide +kernel) (pa_cons (pv 0) (pa_cons (pe_glob (v := .ref T.C_BadByte) (by rfl) T.g_BadByte rfl) pa_nil)))) (pss_one (ps_expr (pe_bm PySem.F.plainAttrs_list PySem.F.slot_list_append PySem.F.type_list_append mt_append (pv 1) (pa_cons (pe_tup (pa_cons pe_str (pa_cons (My.pe_xfT (pv 0)) pa_nil))) pa_nil)))) pss_nil)
      (pss_cons (ps_if (pt_val (pe_callB (My.call_isT) (by rfl) T.z_isinstance (by decide +kernel) (pa_cons (pv 0) (pa_cons (pe_glob (v := .ref T.C_TooGreat) (by rfl) T.g_TooGreat rfl) pa_nil)))) (pss_one (ps_expr (pe_bm PySem.F.plainAttrs_list PySem.F.slot_list_append PySem.F.type_list_append mt_append (pv 1) (pa_cons (pe_tup (pa_cons pe_str (pa_cons (My.pe_xfT (pv 0)) pa_nil))) pa_nil)))) pss_nil)
      (pss_cons (ps_if (pt_val (pe_callB (My.call_isT) (by rfl) T.z_isinstance (by decide +kernel) (pa_cons (pv 0) (pa_cons (pe_glob (v := .ref T.C_OutOfPlace) (by rfl) T.g_OutOfPlace rfl) pa_nil)))) (pss_one (ps_expr (pe_bm PySem.F.plainAttrs_list PySem.F.slot_list_append PySem.F.type_list_append mt_append (pv 1) (pa_cons (pe_tup (pa_cons pe_str (pa_cons pe_non pa_nil))) pa_nil)))) pss_nil)
      (pss_cons (ps_if (pt_val (pe_callB (My.call_isT) (by rfl) T.z_isinstance (by decide +kernel) (pa_cons (pv 0) (pa_cons (pe_glob (v := .ref T.C_NoSeam) (by rfl) T.g_NoSeam rfl) pa_nil)))) (pss_one (ps_expr (pe_bm PySem.F.plainAttrs_list PySem.F.slot_list_append PySem.F.type_list_append mt_append (pv 1) (pa_cons (pe_tup (pa_cons pe_str (pa_cons pe_non pa_nil))) pa_nil)))) pss_nil)
      (pss_cons (ps_if (pt_val (pe_callB (My.call_isT) (by rfl) T.z_isinstance (by decide +kernel) (pa_cons (pv 0) (pa_cons (pe_glob (v := .ref T.C_Nothing) (by rfl) T.g_Nothing rfl) pa_nil)))) (pss_one (ps_expr (pe_bm PySem.F.plainAttrs_list PySem.F.slot_list_append PySem.F.type_list_append mt_append (pv 1) (pa_cons (pe_tup (pa_cons pe_str (pa_cons pe_non pa_nil))) pa_nil)))) pss_nil)
      (pss_one (ps_ret (pe_ifExp (pt_cmpR op_eq (pe_callB (call_len_seq) (by rfl) T.z_len (by decide +kernel) (pa_cons (pv 1) pa_nil)) pe_int (nomark _)) (pe_ix ix_list (pv 1) pe_int (fun _ _ => rfl)) (pe_tup (pa_cons pe_str (pa_cons pe_non pa_nil)))))))))))))))
, ?_⟩
    refine ⟨by decide, fun p hp => ?_⟩
    cases f with
    | coder fv gv =>
      obtain ⟨e, dd, v0, v1, rfl, hd, h0, h1⟩ := hf
      cases e
      have hx0 : ∀ x, some dd = some x → ∃ fs, H x = some (.xd fs) := fun x e => ⟨_, by cases e; exact hd⟩
      obtain ⟨k0, k1, k2, k3, k4, k5, k6, k7, _⟩ := T.ks_BadCoder
      have s1 : Same H (upd H p (.lst [])) := same_new hp
      have p1 : upd H p (.lst []) p = some (.lst []) := upd_same
      generalize upd H p (.lst []) = H1 at s1 p1
      have he1 : Exc H1 a T.C_BadCoder _ := s1 _ _ he
      have hx1 := fun x e => (hx0 x e).imp fun _ z => s1 _ _ z
      refine ⟨_, rfl, _, _, _, _, _, _, rfl, he1, hx1, T.X_BadCoder, fun _ r => r, k0, _, rfl, iteT ?_⟩
      refine ⟨_, rfl, .inl ⟨rfl, _, SqL.of p1⟩, _, rfl, _, _, _, _, _, rfl, he1, s1 _ _ hd, T.x_BadCoder, T.n_BadCoder_part, rfl, _, rfl, _, _, _, _, _, rfl, he1, s1 _ _ hd, T.x_BadCoder, T.n_BadCoder_number, rfl, by show 3 ≤ sizeLine; decide, fun q hq => ⟨p, _, _, rfl, rfl, (upd_ne (ne_of_none p1 hq)).trans p1, by show 0 + 1 ≤ sizeLine; decide, ?_⟩⟩
      have nqp : q ≠ p := fun z => by rw [z, p1] at hq; cases hq
      have s2 : Same H (upd (upd H1 q (.tup [.str "coder", v0, v1])) p (.lst ([] ++ [V.ref q]))) := fun b o e => by
        have nb : b ≠ p := fun z => by rw [z, hp] at e; cases e
        rw [upd_ne nb]
        exact same_new hq _ _ (s1 _ _ e)
      have p2 : upd (upd H1 q (.tup [.str "coder", v0, v1])) p (.lst ([] ++ [V.ref q])) p = some (.lst [V.ref q]) := upd_same
      have q2 : upd (upd H1 q (.tup [.str "coder", v0, v1])) p (.lst ([] ++ [V.ref q])) q = some (.tup [.str "coder", v0, v1]) := (upd_ne nqp).trans upd_same
      generalize upd (upd H1 q (.tup [.str "coder", v0, v1])) p (.lst ([] ++ [V.ref q])) = H2 at s2 p2 q2
      have he2 : Exc H2 a T.C_BadCoder _ := s2 _ _ he
      have hx2 := fun x e => (hx0 x e).imp fun _ z => s2 _ _ z
      refine ⟨_, rfl, _, _, _, _, _, _, rfl, he2, hx2, T.X_BadCoder, fun _ r => r, k1, _, rfl, iteF ?_⟩
      refine ⟨_, rfl, _, _, _, _, _, _, rfl, he2, hx2, T.X_BadCoder, fun _ r => r, k2, _, rfl, iteF ?_⟩
      refine ⟨_, rfl, _, _, _, _, _, _, rfl, he2, hx2, T.X_BadCoder, fun _ r => r, k3, _, rfl, iteF ?_⟩
      refine ⟨_, rfl, _, _, _, _, _, _, rfl, he2, hx2, T.X_BadCoder, fun _ r => r, k4, _, rfl, iteF ?_⟩
      refine ⟨_, rfl, _, _, _, _, _, _, rfl, he2, hx2, T.X_BadCoder, fun _ r => r, k5, _, rfl, iteF ?_⟩
      refine ⟨_, rfl, _, _, _, _, _, _, rfl, he2, hx2, T.X_BadCoder, fun _ r => r, k6, _, rfl, iteF ?_⟩
      refine ⟨_, rfl, _, _, _, _, _, _, rfl, he2, hx2, T.X_BadCoder, fun _ r => r, k7, _, rfl, iteF ?_⟩
      refine ⟨_, rfl, p, _, rfl, .inl (SqL.of p2), rfl, _, rfl, iteT ?_⟩
      exact ⟨_, rfl, p, _, 0, _, rfl, rfl, SqL.of p2, atI_nat (j := 0) rfl, kq _ H2 s2 (.tup (.inl (.inl q2)) (.cons (.str _) (.cons (dp_same s2 _ _ h0) (.cons (dp_same s2 _ _ h1) .nil))))⟩
    | row fv gv =>
      obtain ⟨e, dd, v0, v1, rfl, hd, h0, h1⟩ := hf
      cases e
      have hx0 : ∀ x, some dd = some x → ∃ fs, H x = some (.xd fs) := fun x e => ⟨_, by cases e; exact hd⟩
      obtain ⟨k0, k1, k2, k3, k4, k5, k6, k7, _⟩ := T.ks_BadRow
      have s1 : Same H (upd H p (.lst [])) := same_new hp
      have p1 : upd H p (.lst []) p = some (.lst []) := upd_same
      generalize upd H p (.lst []) = H1 at s1 p1
      have he1 : Exc H1 a T.C_BadRow _ := s1 _ _ he
      have hx1 := fun x e => (hx0 x e).imp fun _ z => s1 _ _ z
      refine ⟨_, rfl, _, _, _, _, _, _, rfl, he1, hx1, T.X_BadRow, fun _ r => r, k0, _, rfl, iteF ?_⟩
      refine ⟨_, rfl, _, _, _, _, _, _, rfl, he1, hx1, T.X_BadRow, fun _ r => r, k1, _, rfl, iteT ?_⟩
      refine ⟨_, rfl, .inl ⟨rfl, _, SqL.of p1⟩, _, rfl, _, _, _, _, _, rfl, he1, s1 _ _ hd, T.x_BadRow, T.n_BadRow_row, rfl, _, rfl, _, _, _, _, _, rfl, he1, s1 _ _ hd, T.x_BadRow, T.n_BadRow_word, rfl, by show 3 ≤ sizeLine; decide, fun q hq => ⟨p, _, _, rfl, rfl, (upd_ne (ne_of_none p1 hq)).trans p1, by show 0 + 1 ≤ sizeLine; decide, ?_⟩⟩
      have nqp : q ≠ p := fun z => by rw [z, p1] at hq; cases hq
      have s2 : Same H (upd (upd H1 q (.tup [.str "row", v0, v1])) p (.lst ([] ++ [V.ref q]))) := fun b o e => by
        have nb : b ≠ p := fun z => by rw [z, hp] at e; cases e
        rw [upd_ne nb]
        exact same_new hq _ _ (s1 _ _ e)
      have p2 : upd (upd H1 q (.tup [.str "row", v0, v1])) p (.lst ([] ++ [V.ref q])) p = some (.lst [V.ref q]) := upd_same
      have q2 : upd (upd H1 q (.tup [.str "row", v0, v1])) p (.lst ([] ++ [V.ref q])) q = some (.tup [.str "row", v0, v1]) := (upd_ne nqp).trans upd_same
      generalize upd (upd H1 q (.tup [.str "row", v0, v1])) p (.lst ([] ++ [V.ref q])) = H2 at s2 p2 q2
      have he2 : Exc H2 a T.C_BadRow _ := s2 _ _ he
      have hx2 := fun x e => (hx0 x e).imp fun _ z => s2 _ _ z
      refine ⟨_, rfl, _, _, _, _, _, _, rfl, he2, hx2, T.X_BadRow, fun _ r => r, k2, _, rfl, iteF ?_⟩
      refine ⟨_, rfl, _, _, _, _, _, _, rfl, he2, hx2, T.X_BadRow, fun _ r => r, k3, _, rfl, iteF ?_⟩
      refine ⟨_, rfl, _, _, _, _, _, _, rfl, he2, hx2, T.X_BadRow, fun _ r => r, k4, _, rfl, iteF ?_⟩
      refine ⟨_, rfl, _, _, _, _, _, _, rfl, he2, hx2, T.X_BadRow, fun _ r => r, k5, _, rfl, iteF ?_⟩
      refine ⟨_, rfl, _, _, _, _, _, _, rfl, he2, hx2, T.X_BadRow, fun _ r => r, k6, _, rfl, iteF ?_⟩
      refine ⟨_, rfl, _, _, _, _, _, _, rfl, he2, hx2, T.X_BadRow, fun _ r => r, k7, _, rfl, iteF ?_⟩
      refine ⟨_, rfl, p, _, rfl, .inl (SqL.of p2), rfl, _, rfl, iteT ?_⟩
      exact ⟨_, rfl, p, _, 0, _, rfl, rfl, SqL.of p2, atI_nat (j := 0) rfl, kq _ H2 s2 (.tup (.inl (.inl q2)) (.cons (.str _) (.cons (dp_same s2 _ _ h0) (.cons (dp_same s2 _ _ h1) .nil))))⟩
    | great fv =>
      obtain ⟨e, dd, v0, rfl, hd, h0⟩ := hf
      cases e
      have hx0 : ∀ x, some dd = some x → ∃ fs, H x = some (.xd fs) := fun x e => ⟨_, by cases e; exact hd⟩
      obtain ⟨k0, k1, k2, k3, k4, k5, k6, k7, _⟩ := T.ks_TooGreat
      have s1 : Same H (upd H p (.lst [])) := same_new hp
      have p1 : upd H p (.lst []) p = some (.lst []) := upd_same
      generalize upd H p (.lst []) = H1 at s1 p1
      have he1 : Exc H1 a T.C_TooGreat _ := s1 _ _ he
      have hx1 := fun x e => (hx0 x e).imp fun _ z => s1 _ _ z
      refine ⟨_, rfl, _, _, _, _, _, _, rfl, he1, hx1, T.X_TooGreat, fun _ r => r, k0, _, rfl, iteF ?_⟩
      refine ⟨_, rfl, _, _, _, _, _, _, rfl, he1, hx1, T.X_TooGreat, fun _ r => r, k1, _, rfl, iteF ?_⟩
      refine ⟨_, rfl, _, _, _, _, _, _, rfl, he1, hx1, T.X_TooGreat, fun _ r => r, k2, _, rfl, iteF ?_⟩
      refine ⟨_, rfl, _, _, _, _, _, _, rfl, he1, hx1, T.X_TooGreat, fun _ r => r, k3, _, rfl, iteF ?_⟩
      refine ⟨_, rfl, _, _, _, _, _, _, rfl, he1, hx1, T.X_TooGreat, fun _ r => r, k4, _, rfl, iteT ?_⟩
      refine ⟨_, rfl, .inl ⟨rfl, _, SqL.of p1⟩, _, rfl, _, _, _, _, _, rfl, he1, s1 _ _ hd, T.x_TooGreat, T.n_TooGreat_most, rfl, by show 2 ≤ sizeLine; decide, fun q hq => ⟨p, _, _, rfl, rfl, (upd_ne (ne_of_none p1 hq)).trans p1, by show 0 + 1 ≤ sizeLine; decide, ?_⟩⟩
      have nqp : q ≠ p := fun z => by rw [z, p1] at hq; cases hq
      have s2 : Same H (upd (upd H1 q (.tup [.str "great", v0])) p (.lst ([] ++ [V.ref q]))) := fun b o e => by
        have nb : b ≠ p := fun z => by rw [z, hp] at e; cases e
        rw [upd_ne nb]
        exact same_new hq _ _ (s1 _ _ e)
      have p2 : upd (upd H1 q (.tup [.str "great", v0])) p (.lst ([] ++ [V.ref q])) p = some (.lst [V.ref q]) := upd_same
      have q2 : upd (upd H1 q (.tup [.str "great", v0])) p (.lst ([] ++ [V.ref q])) q = some (.tup [.str "great", v0]) := (upd_ne nqp).trans upd_same
      generalize upd (upd H1 q (.tup [.str "great", v0])) p (.lst ([] ++ [V.ref q])) = H2 at s2 p2 q2
      have he2 : Exc H2 a T.C_TooGreat _ := s2 _ _ he
      have hx2 := fun x e => (hx0 x e).imp fun _ z => s2 _ _ z
      refine ⟨_, rfl, _, _, _, _, _, _, rfl, he2, hx2, T.X_TooGreat, fun _ r => r, k5, _, rfl, iteF ?_⟩
      refine ⟨_, rfl, _, _, _, _, _, _, rfl, he2, hx2, T.X_TooGreat, fun _ r => r, k6, _, rfl, iteF ?_⟩
      refine ⟨_, rfl, _, _, _, _, _, _, rfl, he2, hx2, T.X_TooGreat, fun _ r => r, k7, _, rfl, iteF ?_⟩
      refine ⟨_, rfl, p, _, rfl, .inl (SqL.of p2), rfl, _, rfl, iteT ?_⟩
      exact ⟨_, rfl, p, _, 0, _, rfl, rfl, SqL.of p2, atI_nat (j := 0) rfl, kq _ H2 s2 (.tup (.inl (.inl q2)) (.cons (.str _) (.cons (dp_same s2 _ _ h0) .nil)))⟩
    | place  =>
      obtain ⟨e, rfl⟩ := hf
      cases e
      have hx0 : ∀ x, (none : Option Addr) = some x → ∃ fs, H x = some (.xd fs) := fun x e => by cases e
      obtain ⟨k0, k1, k2, k3, k4, k5, k6, k7, _⟩ := T.ks_OutOfPlace
      have s1 : Same H (upd H p (.lst [])) := same_new hp
      have p1 : upd H p (.lst []) p = some (.lst []) := upd_same
      generalize upd H p (.lst []) = H1 at s1 p1
      have he1 : Exc H1 a T.C_OutOfPlace _ := s1 _ _ he
      have hx1 := fun x e => (hx0 x e).imp fun _ z => s1 _ _ z
      refine ⟨_, rfl, _, _, _, _, _, _, rfl, he1, hx1, T.X_OutOfPlace, fun _ r => r, k0, _, rfl, iteF ?_⟩
      refine ⟨_, rfl, _, _, _, _, _, _, rfl, he1, hx1, T.X_OutOfPlace, fun _ r => r, k1, _, rfl, iteF ?_⟩
      refine ⟨_, rfl, _, _, _, _, _, _, rfl, he1, hx1, T.X_OutOfPlace, fun _ r => r, k2, _, rfl, iteF ?_⟩
      refine ⟨_, rfl, _, _, _, _, _, _, rfl, he1, hx1, T.X_OutOfPlace, fun _ r => r, k3, _, rfl, iteF ?_⟩
      refine ⟨_, rfl, _, _, _, _, _, _, rfl, he1, hx1, T.X_OutOfPlace, fun _ r => r, k4, _, rfl, iteF ?_⟩
      refine ⟨_, rfl, _, _, _, _, _, _, rfl, he1, hx1, T.X_OutOfPlace, fun _ r => r, k5, _, rfl, iteT ?_⟩
      refine ⟨_, rfl, .inl ⟨rfl, _, SqL.of p1⟩, by show 2 ≤ sizeLine; decide, fun q hq => ⟨p, _, _, rfl, rfl, (upd_ne (ne_of_none p1 hq)).trans p1, by show 0 + 1 ≤ sizeLine; decide, ?_⟩⟩
      have nqp : q ≠ p := fun z => by rw [z, p1] at hq; cases hq
      have s2 : Same H (upd (upd H1 q (.tup [.str "place", .non])) p (.lst ([] ++ [V.ref q]))) := fun b o e => by
        have nb : b ≠ p := fun z => by rw [z, hp] at e; cases e
        rw [upd_ne nb]
        exact same_new hq _ _ (s1 _ _ e)
      have p2 : upd (upd H1 q (.tup [.str "place", .non])) p (.lst ([] ++ [V.ref q])) p = some (.lst [V.ref q]) := upd_same
      have q2 : upd (upd H1 q (.tup [.str "place", .non])) p (.lst ([] ++ [V.ref q])) q = some (.tup [.str "place", .non]) := (upd_ne nqp).trans upd_same
      generalize upd (upd H1 q (.tup [.str "place", .non])) p (.lst ([] ++ [V.ref q])) = H2 at s2 p2 q2
      have he2 : Exc H2 a T.C_OutOfPlace _ := s2 _ _ he
      have hx2 := fun x e => (hx0 x e).imp fun _ z => s2 _ _ z
      refine ⟨_, rfl, _, _, _, _, _, _, rfl, he2, hx2, T.X_OutOfPlace, fun _ r => r, k6, _, rfl, iteF ?_⟩
      refine ⟨_, rfl, _, _, _, _, _, _, rfl, he2, hx2, T.X_OutOfPlace, fun _ r => r, k7, _, rfl, iteF ?_⟩
      refine ⟨_, rfl, p, _, rfl, .inl (SqL.of p2), rfl, _, rfl, iteT ?_⟩
      exact ⟨_, rfl, p, _, 0, _, rfl, rfl, SqL.of p2, atI_nat (j := 0) rfl, kq _ H2 s2 (.tup (.inl (.inl q2)) (.cons (.str _) (.cons (.non) .nil)))⟩
    | seam  =>
      obtain ⟨e, rfl⟩ := hf
      cases e
      have hx0 : ∀ x, (none : Option Addr) = some x → ∃ fs, H x = some (.xd fs) := fun x e => by cases e
      obtain ⟨k0, k1, k2, k3, k4, k5, k6, k7, _⟩ := T.ks_NoSeam
      have s1 : Same H (upd H p (.lst [])) := same_new hp
      have p1 : upd H p (.lst []) p = some (.lst []) := upd_same
      generalize upd H p (.lst []) = H1 at s1 p1
      have he1 : Exc H1 a T.C_NoSeam _ := s1 _ _ he
      have hx1 := fun x e => (hx0 x e).imp fun _ z => s1 _ _ z
      refine ⟨_, rfl, _, _, _, _, _, _, rfl, he1, hx1, T.X_NoSeam, fun _ r => r, k0, _, rfl, iteF ?_⟩
      refine ⟨_, rfl, _, _, _, _, _, _, rfl, he1, hx1, T.X_NoSeam, fun _ r => r, k1, _, rfl, iteF ?_⟩
      refine ⟨_, rfl, _, _, _, _, _, _, rfl, he1, hx1, T.X_NoSeam, fun _ r => r, k2, _, rfl, iteF ?_⟩
      refine ⟨_, rfl, _, _, _, _, _, _, rfl, he1, hx1, T.X_NoSeam, fun _ r => r, k3, _, rfl, iteF ?_⟩
      refine ⟨_, rfl, _, _, _, _, _, _, rfl, he1, hx1, T.X_NoSeam, fun _ r => r, k4, _, rfl, iteF ?_⟩
      refine ⟨_, rfl, _, _, _, _, _, _, rfl, he1, hx1, T.X_NoSeam, fun _ r => r, k5, _, rfl, iteF ?_⟩
      refine ⟨_, rfl, _, _, _, _, _, _, rfl, he1, hx1, T.X_NoSeam, fun _ r => r, k6, _, rfl, iteT ?_⟩
      refine ⟨_, rfl, .inl ⟨rfl, _, SqL.of p1⟩, by show 2 ≤ sizeLine; decide, fun q hq => ⟨p, _, _, rfl, rfl, (upd_ne (ne_of_none p1 hq)).trans p1, by show 0 + 1 ≤ sizeLine; decide, ?_⟩⟩
      have nqp : q ≠ p := fun z => by rw [z, p1] at hq; cases hq
      have s2 : Same H (upd (upd H1 q (.tup [.str "seam", .non])) p (.lst ([] ++ [V.ref q]))) := fun b o e => by
        have nb : b ≠ p := fun z => by rw [z, hp] at e; cases e
        rw [upd_ne nb]
        exact same_new hq _ _ (s1 _ _ e)
      have p2 : upd (upd H1 q (.tup [.str "seam", .non])) p (.lst ([] ++ [V.ref q])) p = some (.lst [V.ref q]) := upd_same
      have q2 : upd (upd H1 q (.tup [.str "seam", .non])) p (.lst ([] ++ [V.ref q])) q = some (.tup [.str "seam", .non]) := (upd_ne nqp).trans upd_same
      generalize upd (upd H1 q (.tup [.str "seam", .non])) p (.lst ([] ++ [V.ref q])) = H2 at s2 p2 q2
      have he2 : Exc H2 a T.C_NoSeam _ := s2 _ _ he
      have hx2 := fun x e => (hx0 x e).imp fun _ z => s2 _ _ z
      refine ⟨_, rfl, _, _, _, _, _, _, rfl, he2, hx2, T.X_NoSeam, fun _ r => r, k7, _, rfl, iteF ?_⟩
      refine ⟨_, rfl, p, _, rfl, .inl (SqL.of p2), rfl, _, rfl, iteT ?_⟩
      exact ⟨_, rfl, p, _, 0, _, rfl, rfl, SqL.of p2, atI_nat (j := 0) rfl, kq _ H2 s2 (.tup (.inl (.inl q2)) (.cons (.str _) (.cons (.non) .nil)))⟩
    | nothing  =>
      obtain ⟨e, rfl⟩ := hf
      cases e
      have hx0 : ∀ x, (none : Option Addr) = some x → ∃ fs, H x = some (.xd fs) := fun x e => by cases e
      obtain ⟨k0, k1, k2, k3, k4, k5, k6, k7, _⟩ := T.ks_Nothing
      have s1 : Same H (upd H p (.lst [])) := same_new hp
      have p1 : upd H p (.lst []) p = some (.lst []) := upd_same
      generalize upd H p (.lst []) = H1 at s1 p1
      have he1 : Exc H1 a T.C_Nothing _ := s1 _ _ he
      have hx1 := fun x e => (hx0 x e).imp fun _ z => s1 _ _ z
      refine ⟨_, rfl, _, _, _, _, _, _, rfl, he1, hx1, T.X_Nothing, fun _ r => r, k0, _, rfl, iteF ?_⟩
      refine ⟨_, rfl, _, _, _, _, _, _, rfl, he1, hx1, T.X_Nothing, fun _ r => r, k1, _, rfl, iteF ?_⟩
      refine ⟨_, rfl, _, _, _, _, _, _, rfl, he1, hx1, T.X_Nothing, fun _ r => r, k2, _, rfl, iteF ?_⟩
      refine ⟨_, rfl, _, _, _, _, _, _, rfl, he1, hx1, T.X_Nothing, fun _ r => r, k3, _, rfl, iteF ?_⟩
      refine ⟨_, rfl, _, _, _, _, _, _, rfl, he1, hx1, T.X_Nothing, fun _ r => r, k4, _, rfl, iteF ?_⟩
      refine ⟨_, rfl, _, _, _, _, _, _, rfl, he1, hx1, T.X_Nothing, fun _ r => r, k5, _, rfl, iteF ?_⟩
      refine ⟨_, rfl, _, _, _, _, _, _, rfl, he1, hx1, T.X_Nothing, fun _ r => r, k6, _, rfl, iteF ?_⟩
      refine ⟨_, rfl, _, _, _, _, _, _, rfl, he1, hx1, T.X_Nothing, fun _ r => r, k7, _, rfl, iteT ?_⟩
      refine ⟨_, rfl, .inl ⟨rfl, _, SqL.of p1⟩, by show 2 ≤ sizeLine; decide, fun q hq => ⟨p, _, _, rfl, rfl, (upd_ne (ne_of_none p1 hq)).trans p1, by show 0 + 1 ≤ sizeLine; decide, ?_⟩⟩
      have nqp : q ≠ p := fun z => by rw [z, p1] at hq; cases hq
      have s2 : Same H (upd (upd H1 q (.tup [.str "nothing", .non])) p (.lst ([] ++ [V.ref q]))) := fun b o e => by
        have nb : b ≠ p := fun z => by rw [z, hp] at e; cases e
        rw [upd_ne nb]
        exact same_new hq _ _ (s1 _ _ e)
      have p2 : upd (upd H1 q (.tup [.str "nothing", .non])) p (.lst ([] ++ [V.ref q])) p = some (.lst [V.ref q]) := upd_same
      have q2 : upd (upd H1 q (.tup [.str "nothing", .non])) p (.lst ([] ++ [V.ref q])) q = some (.tup [.str "nothing", .non]) := (upd_ne nqp).trans upd_same
      generalize upd (upd H1 q (.tup [.str "nothing", .non])) p (.lst ([] ++ [V.ref q])) = H2 at s2 p2 q2
      have he2 : Exc H2 a T.C_Nothing _ := s2 _ _ he
      have hx2 := fun x e => (hx0 x e).imp fun _ z => s2 _ _ z
      refine ⟨_, rfl, p, _, rfl, .inl (SqL.of p2), rfl, _, rfl, iteT ?_⟩
      exact ⟨_, rfl, p, _, 0, _, rfl, rfl, SqL.of p2, atI_nat (j := 0) rfl, kq _ H2 s2 (.tup (.inl (.inl q2)) (.cons (.str _) (.cons (.non) .nil)))⟩
    | _ => exact hf.elim
/-- the refusals that are told -/
def EO (T : Txt K mg) (Q : VK) : XK := fun cls d H' => ∃ f, IsFl T cls d H' f ∧ ∀ z H'', Same H' H'' → Dp K H'' z f.dat → Q z H''
def TTO (T : Txt K mg) : (XK → Hp → VK → Prop) → Hp → VK → Prop := fun tl H Q => ∀ H1, Same H H1 → ∀ Q2 : VK, (∀ v H2, (∀ l, H2 l = none → Q (.ref l) (upd H2 l (.lst [v]))) → Q2 v H2) → tl (EO T Q) H1 Q2
theorem isFl_em {T : Txt K mg} {cls : Value} {d : Option Addr} {H : Hp} {f : Fl} (h : IsFl T cls d H f) : ∃ (D : Addr) (bs : List Bool), cls = .ref D ∧
    exmEach K (.ref D) [.ref T.C_BadCoder, .ref T.C_BadRow, .ref T.C_BadPaper, .ref T.C_BadByte, .ref T.C_TooGreat, .ref T.C_OutOfPlace, .ref T.C_NoSeam, .ref T.C_Nothing] bs ∧ bs.any id = true := by
  cases f with
  | coder p n => exact ⟨_, _, h.1, T.em_BadCoder, rfl⟩
  | row p n => exact ⟨_, _, h.1, T.em_BadRow, rfl⟩
  | great n => exact ⟨_, _, h.1, T.em_TooGreat, rfl⟩
  | place => exact ⟨_, _, h.1, T.em_OutOfPlace, rfl⟩
  | seam => exact ⟨_, _, h.1, T.em_NoSeam, rfl⟩
  | nothing => exact ⟨_, _, h.1, T.em_Nothing, rfl⟩
  | _ => exact h.elim
theorem isFl_same {T : Txt K mg} {cls : Value} {d : Option Addr} {H H' : Hp} {f : Fl} (s : Same H H') (h : IsFl T cls d H f) : IsFl T cls d H' f := by
  cases f with
  | coder p n =>
    obtain ⟨e, dd, vp, vn, e2, hd, h1, h2⟩ := h
    exact ⟨e, dd, vp, vn, e2, s _ _ hd, dp_same s _ _ h1, dp_same s _ _ h2⟩
  | row p n =>
    obtain ⟨e, dd, vp, vn, e2, hd, h1, h2⟩ := h
    exact ⟨e, dd, vp, vn, e2, s _ _ hd, dp_same s _ _ h1, dp_same s _ _ h2⟩
  | great n =>
    obtain ⟨e, dd, vn, e2, hd, h2⟩ := h
    exact ⟨e, dd, vn, e2, s _ _ hd, dp_same s _ _ h2⟩
  | place => exact h
  | seam => exact h
  | nothing => exact h
  | _ => exact h.elim
end
theorem sc_law_outcome' : FnScope ["deed", "caught", "found", "e"] ["deed"] (defScope s_law_outcome) := sc_law_outcome
theorem outcome_gives {X : Cx} (T : Txt X.K X.mg) (hr : Room 3 X.A) {g : Addr} {cdg : Value} {q : Str} :
    GivesTo X ["deed", "caught", "found", "e"] "_law_outcome" (defScope s_law_outcome) g cdg (defBody s_law_outcome) "deed" q (TTO T) := by
  intro f c' s H Q tl act hc h
  have hr' : Room 2 (cxOf C8.CX0 X.prog X.w X.K X.mg X.base ["deed", "caught", "found", "e"] "_law_outcome" (defScope s_law_outcome) g cdg X.A X.stack s H C8.E0).nox.A := hr.deeper _
  refine ⟨_, pss_cons (ps_asg (pe_tup (pa_cons pe_non (pa_cons pe_non pa_nil))) (pg_tup (by rfl) (pgs_cons (pg_name (i := 1) sc_law_outcome.nd rfl (Or.inl rfl)) (pgs_cons (pg_name (i := 2) sc_law_outcome.nd rfl (Or.inl rfl)) pgs_nil))))
    (pss_cons (ps_try_keep (i := 3) (j := 1) (cs := [.ref T.C_BadCoder, .ref T.C_BadRow, .ref T.C_BadPaper, .ref T.C_BadByte, .ref T.C_TooGreat, .ref T.C_OutOfPlace, .ref T.C_NoSeam, .ref T.C_Nothing])
      (tb := fun W D σ H => ∃ Ech : XK, (∀ cls d σ' H', Ech cls d H' → W cls d σ' H') ∧ σ[0]? = some (some (.ref f)) ∧ H c' = some (CodeO c' q) ∧ tl Ech H (fun v H' => D.nx (σ.set 2 (some v)) H'))
      rfl rfl rfl sc_law_outcome.nd rfl rfl rfl rfl (by decide) (by decide) (by decide)
      ⟨⟨by rfl, by decide, .inl T.g_BadCoder⟩, ⟨by rfl, by decide, .inl T.g_BadRow⟩, ⟨by rfl, by decide, .inl T.g_BadPaper⟩, ⟨by rfl, by decide, .inl T.g_BadByte⟩, ⟨by rfl, by decide, .inl T.g_TooGreat⟩, ⟨by rfl, by decide, .inl T.g_OutOfPlace⟩, ⟨by rfl, by decide, .inl T.g_NoSeam⟩, ⟨by rfl, by decide, .inl T.g_Nothing⟩, True.intro⟩
      (by show 8 ≤ sizeLine; decide) L2.takes0 (fun W pn xe tk _ => ?hb))
    (pss_one (ps_ret (pe_ifExp (pt_cmpR op_isN (pv 1) pe_non (nomark _)) (pe_lst (pa_cons (pv 2) pa_nil)) (pe_call (ok_law_fault T) (hr'.mono (by decide)) (by rfl) T.g__law_fault T.F__law_fault.kp T.b__law_fault .nil pass0 (pa_cons (pv 1) pa_nil)))))), ?go⟩
  case hb =>
    refine ⟨fun pins s' σ H' D I h' => ?_⟩
    obtain ⟨Ech, hW, h1, h2, h3⟩ := h'
    exact (pss_one (ps_set (i := 2) sc_law_outcome.nd rfl (Or.inl rfl) (act W pn xe Ech _ _ tk hW))).run pins s' σ H' D I ⟨h1, h2, h3⟩
  case go =>
    refine ⟨by decide, fun p hp => ?_⟩
    refine ⟨p, _, rfl, upd_tup, rfl, _, _, rfl, _, _, rfl, rfl, ?_⟩
    have s1 : Same H (upd H p (.tup [V.non, V.non])) := same_new hp
    generalize upd H p (.tup [V.non, V.non]) = H1 at s1
    refine ⟨EO T Q, fun cls d σ' H' hE => ?_, rfl, s1 _ _ hc, ?_⟩
    · obtain ⟨fl, hf, kq⟩ := hE
      obtain ⟨D0, bs, rfl, hem, hany⟩ := isFl_em hf
      refine ⟨bs, hem, fun _ hlen a ha => ?_, fun e => by rw [hany] at e; cases e⟩
      match σ', hlen with
      | [x0, x1, x2, x3], _ =>
        have s2 : Same H' (upd H' a (exT a (.ref D0) d)) := same_new ha
        refine ⟨.ref a, rfl, rfl, _, rfl, iteF ?_⟩
        exact ⟨.ref a, rfl, a, D0, d, fl, rfl, upd_same, isFl_same s2 hf, fun z H'' s3 hz => kq z H'' (s2.trans s3) hz⟩
    · refine h H1 s1 _ fun v H2 hv => ?_
      refine ⟨.non, rfl, rfl, _, rfl, iteT ?_⟩
      exact ⟨v, rfl, by show 1 ≤ sizeLine; decide, hv⟩
/-- _law_outcome(lambda: body) -/
theorem pe_outcome {X : Cx} (T : Txt X.K X.mg) {c P : Addr} {k : Nat} {body : Expr} {params : Arguments} {scope : Scope} {t : XK → TE} {p lpos pos : Pos} (TB : TabB X.base X.mg c P) (hcode : X.env.code = .ref c) (hg : Gl X "_law_outcome") (hr : Room (k + 3) X.A) (L : LamS X.env.scope scope)
    (hdef : defaultsOf params X.env = ([], [])) (hbind : ∀ (q : Str) (cl : List (Str × Addr)) (pm cv ctv : Value), bindArgs (PySem.W.kla_fn "<lambda>" q params body scope cl pm cv ctv) ⟨[], []⟩ = pure [])
    (hbody : ∀ (A : Around) (outer : List Env) (s : Shared) (H : Hp) (E : XK) (f c' : Addr), Room (k + 1) (A.deeper (lamEnv X scope s.heap.objs.size f c')) → PE (lamCx X A outer s H E scope f c') body (t E)) :
    PE X (.Call (.Name "_law_outcome" p) [.Lambda params body scope lpos] [] pos) (tLam [(P, X.env.qual ++ "<lambda>")] (TTO T) t) := by
  obtain ⟨oc, od, dV, kV, doc, pm, an, cdv, ct, osl, lk, hcd, hb⟩ := T.lk_oc
  exact pe_lamcall (k := k + 1) (Ng := ["deed", "caught", "found", "e"]) (a := "deed") hg T.g__law_outcome T.kp_oc lk hcd hb sc_law_outcome rfl (.inl rfl) (outcome_gives T (hr.mono (by omega))) TB hcode (List.mem_singleton.mpr rfl)
    (fun p hp _ => by rw [List.mem_singleton.mp hp]) hr L hdef hbind hbody
end My

/-! _law_outcome(lambda: ..) where several defs hold lambdas -/
namespace My
open PySem PySem.Spec PyProof.Rows L2 LamX
theorem pe_outcomeL {X : Cx} (T : Txt X.K X.mg) (S : List (Addr × Str)) {c P : Addr} {k : Nat} {body : Expr} {params : Arguments} {scope : Scope} {t : XK → TE} {p lpos pos : Pos} (TB : TabB X.base X.mg c P) (hcode : X.env.code = .ref c) (hm : (P, X.env.qual ++ "<lambda>") ∈ S)
    (ho : ∀ p ∈ S, ∀ q ∈ S, p.1 = q.1 → p.2 = q.2) (hg : Gl X "_law_outcome") (hr : Room (k + 3) X.A) (L : LamS X.env.scope scope)
    (hdef : defaultsOf params X.env = ([], [])) (hbind : ∀ (q : Str) (cl : List (Str × Addr)) (pm cv ctv : Value), bindArgs (PySem.W.kla_fn "<lambda>" q params body scope cl pm cv ctv) ⟨[], []⟩ = pure [])
    (hbody : ∀ (A : Around) (outer : List Env) (s : Shared) (H : Hp) (E : XK) (f c' : Addr), Room (k + 1) (A.deeper (lamEnv X scope s.heap.objs.size f c')) → PE (lamCx X A outer s H E scope f c') body (t E)) :
    PE X (.Call (.Name "_law_outcome" p) [.Lambda params body scope lpos] [] pos) (tLam S (TTO T) t) := by
  obtain ⟨oc, od, dV, kV, doc, pm, an, cdv, ct, osl, lk, hcd, hb⟩ := T.lk_oc
  exact pe_lamcall (k := k + 1) (Ng := ["deed", "caught", "found", "e"]) (a := "deed") hg T.g__law_outcome T.kp_oc lk hcd hb sc_law_outcome rfl (.inl rfl) (outcome_gives T (hr.mono (by omega))) TB hcode hm
    (fun p hp e => ho p hp _ hm e) hr L hdef hbind hbody
end My

/-! what stands through draws and lambdas; refusals that are told -/
namespace My
open PySem PySem.Spec PyProof.Rows L2
open LamX
theorem tabS_of {H H' : Hp} {P : Addr} {q : Str} (t : TabS H P q) (k : ∀ b o, H b = some o → (∀ xs, o ≠ .lst xs) → (∀ kv, o ≠ .dK kv) → H' b = some o) : TabS H' P q := by
  obtain ⟨ps, h1, h2, h3⟩ := t
  refine ⟨ps, k _ _ h1 nofun nofun, h2, fun pos cv hc => ?_⟩
  obtain ⟨c, e1, e2⟩ := h3 pos cv hc
  exact ⟨c, e1, k _ _ e2 (fun xs z => by unfold CodeO at z; cases z) (fun xs z => by unfold CodeO at z; cases z)⟩
theorem tabs_of {T : List (Addr × Str)} {H H' : Hp} (t : Tabs T H) (k : ∀ b o, H b = some o → (∀ xs, o ≠ .lst xs) → (∀ kv, o ≠ .dK kv) → H' b = some o) : Tabs T H' := fun p hp => tabS_of (t p hp) k
theorem tabs_same {T : List (Addr × Str)} {H H' : Hp} (t : Tabs T H) (s : Same H H') : Tabs T H' := t.ext s
theorem tabs_kp {T : List (Addr × Str)} {H H' : Hp} {m c l l' n : Addr} (t : Tabs T H) (k : Kp m l H l' H') (d : Dr H m c l n) : Tabs T H' := tabs_of t fun b o h n1 n2 => by
  obtain ⟨cs, ls, z, h1, h2, h3, r⟩ := d.ex
  exact k.st b o h (fun e => by rw [e, h1] at h; cases h; exact n2 _ rfl) (fun e => by rw [e, h3] at h; cases h; exact n1 _ rfl)
theorem tabs_put {T : List (Addr × Str)} {H : Hp} {p : Addr} {xs ys : List V} (t : Tabs T H) (h : H p = some (.lst xs)) : Tabs T (upd H p (.lst ys)) := tabs_of t fun b o hb n1 n2 => by
  rw [upd_ne (fun e => by rw [e, h] at hb; cases hb; exact n1 _ rfl)]
  exact hb
theorem tabs_nil {H : Hp} {P : Addr} {q : Str} (h : H P = some (.tbl #[])) : Tabs [(P, q)] H := fun p hp => by
  rw [List.mem_singleton.mp hp]
  exact TabS.nil h
theorem ext_same {H H' : Hp} (s : Same H H') : ExtN H H' := ExtN.of s
theorem keep_ext {H H' : Hp} (e : ExtN H H') : Keep H H' := fun b o h t => e b o h fun ps z => by
  rw [z] at t
  exact t
theorem ext_tup {K : PySem.W.Frag} {H H' : Hp} {a : Addr} {xs : List V} (e : ExtN H H') (h : SqT K H a xs) : SqT K H' a xs := (keep_ext e).tup h
theorem ext_seq {K : PySem.W.Frag} {H H' : Hp} {a : Addr} {xs : List V} (e : ExtN H H') (h : SqL K H a xs) : SqL K H' a xs := by
  rcases h with (h | ⟨o, h⟩) | h
  · exact .inl (.inl (e _ _ h nofun))
  · exact .inl (.inr ⟨o, e _ _ h nofun⟩)
  · exact .inr h
mutual
theorem dp_ext {K : PySem.W.Frag} {H H' : Hp} (s : ExtN H H') : ∀ (d : PyData) (v : V), Dp K H v d → Dp K H' v d
  | .none, _, h => by cases h; exact .non
  | .bool _, _, h => by cases h; exact .bl _
  | .int _, _, h => by cases h; exact .int _
  | .str _, _, h => by cases h; exact .str _
  | .list ds, _, h => by
    cases h with
    | lst a b => exact .lst (ext_seq s a) (dpAll_ext s ds _ b)
  | .tuple ds, _, h => by
    cases h with
    | tup a b => exact .tup (ext_tup s a) (dpAll_ext s ds _ b)
  | .dict _, _, h => by cases h
theorem dpAll_ext {K : PySem.W.Frag} {H H' : Hp} (s : ExtN H H') : ∀ (ds : List PyData) (vs : List V), DpAll K H vs ds → DpAll K H' vs ds
  | [], _, h => by cases h; exact .nil
  | d :: ds, _, h => by
    cases h with
    | cons a b => exact .cons (dp_ext s d _ a) (dpAll_ext s ds _ b)
end
theorem dr_ext {H H' : Hp} {m c l n : Nat} (d : Dr H m c l n) (s : ExtN H H') : Dr H' m c l n := by
  obtain ⟨cs, ls, k, h1, h2, h3, r⟩ := d.ex
  exact ⟨cs, ls, k, s _ _ h1 nofun, s _ _ h2 nofun, s _ _ h3 nofun, r⟩
theorem own_ext {H H' : Hp} {m c l p : Addr} {xs : List V} (o : Own H m c l p xs) (s : ExtN H H') : Own H' m c l p xs := ⟨s _ _ o.st nofun, o.nm, o.nc, o.nl⟩
/-! all but the drawer's own objects -/
def hide (m l : Addr) (H : Hp) : Hp := fun b => if b = m ∨ b = l then none else H b
theorem hide_same {m l : Addr} {H H' : Hp} (s : Same H H') : Same (hide m l H) (hide m l H') := fun b o h => by
  unfold hide at h ⊢
  by_cases e : b = m ∨ b = l
  · rw [if_pos e] at h
    cases h
  · rw [if_neg e] at h ⊢
    exact s _ _ h
theorem hide_at {m c l n p : Addr} {H : Hp} {o : HO} (D : Dr H m c l n) (h : H p = none) : hide m l (upd H p o) p = some o := by
  obtain ⟨cs, ls, k, h1, h2, h3, r⟩ := D.ex
  unfold hide
  rw [if_neg (fun e => by
    rcases e with e | e
    · rw [e, h1] at h; cases h
    · rw [e, h3] at h; cases h)]
  exact upd_same
theorem hide_kp {m l l' : Addr} {H H' : Hp} (k : Kp m l H l' H') : Same (hide m l H) H' := fun b o h => by
  unfold hide at h
  by_cases e : b = m ∨ b = l
  · rw [if_pos e] at h
    cases h
  · rw [if_neg e] at h
    exact k.st b o h (fun z => e (.inl z)) (fun z => e (.inr z))
theorem hide_sub {m l : Addr} {H : Hp} : Same (hide m l H) H := fun b o h => by
  unfold hide at h
  by_cases e : b = m ∨ b = l
  · rw [if_pos e] at h
    cases h
  · rw [if_neg e] at h
    exact h
/-! ### a coder's data tell the coder -/
theorem ints_inj : ∀ {a b : List Int}, a.map PyData.int = b.map PyData.int → a = b
  | [], [], _ => rfl
  | x :: a, y :: b, h => by
    injection h with h1 h2
    injection h1 with h1
    rw [h1, ints_inj h2]
  | [], _ :: _, h => by cases h
  | _ :: _, [], h => by cases h
theorem pairI_inj {a b : Int × Int} (h : pairI a = pairI b) : a = b := by
  unfold pairI at h
  injection h with h
  injection h with h1 h
  injection h with h2 _
  injection h1 with h1
  injection h2 with h2
  exact Prod.ext h1 h2
theorem pairs_inj : ∀ {a b : List (Int × Int)}, a.map pairI = b.map pairI → a = b
  | [], [], _ => rfl
  | x :: a, y :: b, h => by
    injection h with h1 h2
    rw [pairI_inj h1, pairs_inj h2]
  | [], _ :: _, h => by cases h
  | _ :: _, [], h => by cases h
theorem dat_inj {C D : Cod} (h : C.dat = D.dat) : C = D := by
  obtain ⟨l, g, s, m, f⟩ := C
  obtain ⟨l', g', s', m', f'⟩ := D
  unfold Cod.dat at h
  injection h with h
  injection h with h1 h
  injection h with h2 h
  injection h with h3 h
  injection h with h4 h
  injection h with h5 _
  injection h1 with h1
  injection h2 with h2
  injection h3 with h3
  injection h4 with h4
  injection h5 with h5
  have h3 := ints_inj h3
  have h4 := pairs_inj h4
  subst h1 h2 h3 h4 h5
  rfl
theorem row_inj : ∀ {a b : List Nat}, (a.map fun k : Nat => PyData.int (k : Int)) = (b.map fun k : Nat => PyData.int (k : Int)) → a = b
  | [], [], _ => rfl
  | x :: a, y :: b, h => by
    injection h with h1 h2
    injection h1 with h1
    rw [row_inj h2, Int.ofNat.inj h1]
  | [], _ :: _, h => by cases h
  | _ :: _, [], h => by cases h
theorem rowBad_pre {C : Cod} : ∀ {pre : List PyData} {r : List PyData} {i : Nat}, (∀ d ∈ pre, codeD C d = true) → i + pre.length ≤ 2000 → rowBad C i (pre ++ r) = rowBad C (i + pre.length) r
  | [], _, _, _, _ => rfl
  | d :: pre, r, i, h, hl => by
    rw [List.length_cons] at hl
    show (if (decide (i = 2000) || !codeD C d) = true then some i else rowBad C (i + 1) (pre ++ r)) = _
    rw [h d List.mem_cons_self, decide_eq_false (by omega)]
    show rowBad C (i + 1) (pre ++ r) = _
    rw [rowBad_pre (fun e he => h e (List.mem_cons_of_mem _ he)) (by omega), List.length_cons]
    congr 1
    omega
theorem codeD_in {C : Cod} {k : Nat} (h : k < C.moves.length) : codeD C (.int (k : Int)) = true := btw_in (by omega) (by omega)
theorem row_codes {C : Cod} {row : List Nat} (h : ∀ k ∈ row, k < C.moves.length) : ∀ d ∈ row.map (fun k : Nat => PyData.int (k : Int)), codeD C d = true := fun d hd => by
  obtain ⟨k, hk, rfl⟩ := List.mem_map.mp hd
  exact codeD_in (h k hk)
theorem rowRes_row' {C : Cod} {row : List Nat} (R : C.Row row) : rowRes C (some (row.map fun k : Nat => PyData.int (k : Int))) = none := by
  refine rowRes_ok ?_
  have := rowBad_pre (C := C) (pre := row.map fun k : Nat => PyData.int (k : Int)) (r := []) (i := 0) (row_codes R.lt) (by rw [List.length_map]; have := R.len; omega)
  rw [List.append_nil] at this
  exact this
/-- the first that is no code -/
theorem rowRes_at {C : Cod} {row : List Nat} {d : PyData} {r : List PyData} (h : ∀ k ∈ row, k < C.moves.length) (hl : row.length ≤ 2000) (hd : codeD C d = false) : rowRes C (some ((row.map fun k : Nat => PyData.int (k : Int)) ++ d :: r)) = some (1, (row.length : Int) + 1) := by
  refine rowRes_bad ?_
  rw [rowBad_pre (row_codes h) (by rw [List.length_map]; omega), List.length_map, Nat.zero_add]
  show (if (decide (row.length = 2000) || !codeD C d) = true then some row.length else _) = _
  rw [hd, Bool.not_false, Bool.or_true]
  rfl
theorem fltV_cod {C : Cod} (O : C.Ok) {y z : V} {R : Prop} (h : FltV (firstF C.dat) y z) : R := by
  rw [O.first] at h
  cases h
theorem fltV_tell {s : Str} {n : PyData} {y z : V} {d : PyData} (e : d = .tuple [.str s, n]) (h : FltV d y z) {K : PySem.W.Frag} {H : Hp} : Dp K H y (.str s) ∧ Dp K H z n := by
  cases h with
  | non t =>
    injection e with e
    injection e with e1 e
    injection e with e2 _
    injection e1 with e1
    subst e1 e2
    exact ⟨.str _, .non⟩
  | int t k =>
    injection e with e
    injection e with e1 e
    injection e with e2 _
    injection e1 with e1
    subst e1 e2
    exact ⟨.str _, .int _⟩
theorem units65 {k : Nat} {A : Around} (r : Room k A) : A.units + 65 < cLine := by have := r.un; omega
theorem eqv_self {d : PyData} (h : SeqAt.shaped d = true) : PyData.eqv d d = true := SeqAt.eqv_refl d (SeqAt.canLay_of_shaped h)
/-- x != y of the same data -/
theorem neD_same {K : PySem.W.Frag} {H : Hp} {x y : V} {d : PyData} {A B : Hp → Prop} (hx : Dp K H x d) (hy : Dp K H y d) (hs : SeqAt.shaped d = true) (q : B H) : rNeD K x y H fun v H' => ∃ c, v = .bl c ∧ if c = true then A H' else B H' := by
  refine ⟨d, d, hx, hy, hs, hs, _, rfl, ?_⟩
  rw [eqv_self hs]
  exact iteF q
theorem pick_v {xs : List V} {r : Int} (h0 : 0 ≤ r) (h1 : r < (xs.length : Int)) : ∃ z, z ∈ xs ∧ atI xs r = some z := by
  obtain ⟨n, rfl⟩ := Int.eq_ofNat_of_zero_le h0
  have hn : n < xs.length := by omega
  exact ⟨xs[n], List.getElem_mem hn, atI_nat (List.getElem?_eq_getElem hn)⟩
section
variable {K : PySem.W.Frag} {mg : Str → Option Value} {T : Txt K mg} {H : Hp} {Q : VK}
theorem place_E (q : ∀ z H', Same H H' → Dp K H' z (.tuple [.str "place", .none]) → Q z H') : NilE T.C_OutOfPlace H (EO T Q) := fun H' s => ⟨.place, ⟨rfl, rfl⟩, fun z H'' s' hz => q z H'' (s.trans s') hz⟩
theorem seam_E (q : ∀ z H', Same H H' → Dp K H' z (.tuple [.str "seam", .none]) → Q z H') : NilE T.C_NoSeam H (EO T Q) := fun H' s => ⟨.seam, ⟨rfl, rfl⟩, fun z H'' s' hz => q z H'' (s.trans s') hz⟩
theorem nothing_E (q : ∀ z H', Same H H' → Dp K H' z (.tuple [.str "nothing", .none]) → Q z H') : NilE T.C_Nothing H (EO T Q) := fun H' s => ⟨.nothing, ⟨rfl, rfl⟩, fun z H'' s' hz => q z H'' (s.trans s') hz⟩
theorem row_E {i j : Int} (q : ∀ z H', Same H H' → Dp K H' z (.tuple [.str "row", .int i, .int j]) → Q z H') : RowE T.C_BadRow H (EO T Q) i j := fun d H' s hd => ⟨.row (.int i) (.int j), ⟨rfl, d, _, _, rfl, hd, .int _, .int _⟩, fun z H'' s' hz => q z H'' (s.trans s') hz⟩
theorem coder_E {dc : PyData} {s : Str} {n : PyData} (e : firstF dc = .tuple [.str s, n]) (q : ∀ z H', Same H H' → Dp K H' z (.tuple [.str "coder", .str s, n]) → Q z H') {y z : V} (h : FltV (firstF dc) y z) : TwoE T.C_BadCoder "part" "number" H (EO T Q) y z :=
  fun d H' s hd => ⟨.coder (.str _) n, ⟨rfl, d, _, _, rfl, hd, (fltV_tell e h).1, (fltV_tell e h).2⟩, fun z H'' s' hz => q z H'' (s.trans s') hz⟩
theorem great_E {n : Int} (q : ∀ z H', Same H H' → Dp K H' z (.tuple [.str "great", .int n]) → Q z H') : OneE T.C_TooGreat "most" H (EO T Q) (.int n) := fun d H' s hd => ⟨.great (.int n), ⟨rfl, d, _, rfl, hd, .int _⟩, fun z H'' s' hz => q z H'' (s.trans s') hz⟩
end
end My

namespace My
open PySem PySem.Spec PyProof.Rows L2
/-! ### slices and sums of tuples of anything -/
theorem sl_takeV {K : PySem.W.Frag} {H : Hp} {a : Addr} {xs : List V} {n : Nat} {Q : VK} (h : SqT K H a xs) (hn : n ≤ xs.length) (k : ∀ b H', Same H H' → SqT K H' b (xs.take n) → Q (.ref b) H') :
    rSlA K (.ref a) none (some (n : Int)) H Q := by
  refine ⟨a, xs, rfl, h, fun ⟨_, e⟩ => ?_, fun _ p hp => ?_⟩
  · rw [HT.sIx_nat, Nat.min_eq_left hn] at e
    refine k _ H (Same.refl H) ?_
    rw [e, List.take_length]
    exact h
  · refine k _ _ (same_new hp) ?_
    rw [cut_take hn]
    exact upd_tup
theorem sl_dropV {K : PySem.W.Frag} {H : Hp} {a : Addr} {xs : List V} {n : Nat} {Q : VK} (h : SqT K H a xs) (hn : n ≤ xs.length) (k : ∀ b H', Same H H' → SqT K H' b (xs.drop n) → Q (.ref b) H') :
    rSlA K (.ref a) (some (n : Int)) none H Q := by
  refine ⟨a, xs, rfl, h, fun ⟨e, _⟩ => ?_, fun _ p hp => ?_⟩
  · rw [HT.sIx_nat, Nat.min_eq_left hn] at e
    refine k _ H (Same.refl H) ?_
    rw [e]
    exact h
  · refine k _ _ (same_new hp) ?_
    rw [cut_drop hn]
    exact upd_tup
theorem cat_any {K : PySem.W.Frag} {H : Hp} {a b : Addr} {xs ys : List V} {Q : VK} (ha : SqT K H a xs) (hb : SqT K H b ys) (hl : xs.length + ys.length ≤ sizeLine)
    (k : ∀ c H', Same H H' → SqT K H' c (xs ++ ys) → Q (.ref c) H') : rCatA K (.ref a) (.ref b) H Q := by
  refine ⟨a, b, _, _, rfl, rfl, ha, hb, hl, fun e => ?_, fun _ e => ?_, fun _ _ p hp => ?_⟩
  · refine k _ H (Same.refl H) ?_
    rw [e]
    exact hb
  · refine k _ H (Same.refl H) ?_
    rw [e, List.append_nil]
    exact ha
  · exact k _ _ (same_new hp) upd_tup
theorem dpAll_take {K : PySem.W.Frag} {H : Hp} : ∀ {xs : List V} {ds : List PyData} (n : Nat), DpAll K H xs ds → DpAll K H (xs.take n) (ds.take n)
  | _, _, 0, _ => .nil
  | _, _, n + 1, .nil => .nil
  | _, _, n + 1, .cons a b => .cons a (dpAll_take n b)
theorem dpAll_drop {K : PySem.W.Frag} {H : Hp} : ∀ {xs : List V} {ds : List PyData} (n : Nat), DpAll K H xs ds → DpAll K H (xs.drop n) (ds.drop n)
  | _, _, 0, h => h
  | _, _, n + 1, .nil => .nil
  | _, _, n + 1, .cons a b => dpAll_drop n b
end My

/-! all but tables and instances stands -/
namespace My
open PySem PySem.Spec PyProof.Rows L2 LamX
theorem sq_mk {K : PySem.W.Frag} {H : Hp} {p : Addr} {xs : List V} (_ : H p = none) : SqL K (upd H p (.lst xs)) p xs := SqL.of upd_same
def ExI (H H' : Hp) : Prop := ∀ b o, H b = some o → (∀ ps, o ≠ .tbl ps) → (∀ C dx fs, o ≠ .ins C dx fs) → H' b = some o
theorem exI_of {H H' : Hp} (e : ExtN H H') : ExI H H' := fun b o h n _ => e b o h n
theorem exI_same {H H' : Hp} (e : Same H H') : ExI H H' := fun b o h _ _ => e b o h
theorem ExI.trans {H H1 H2 : Hp} (a : ExI H H1) (b : ExI H1 H2) : ExI H H2 := fun p o h n1 n2 => b p o (a p o h n1 n2) n1 n2
theorem ExI.refl (H : Hp) : ExI H H := fun _ _ h _ _ => h
theorem exI_ins {H : Hp} {p C dx : Addr} {fs : List (Str × V)} {o : HO} (hp : H p = some (.ins C dx fs)) : ExI H (upd H p o) := fun b u h _ n => by
  rw [upd_ne fun e => by rw [e, hp] at h; cases h; exact n _ _ _ rfl]
  exact h
theorem exI_keep {H H' : Hp} (e : ExI H H') : Keep H H' := fun b o h t => e b o h (fun ps z => by rw [z] at t; exact t) (fun C dx fs z => by rw [z] at t; exact t)
theorem exI_tup {K : PySem.W.Frag} {H H' : Hp} {a : Addr} {xs : List V} (e : ExI H H') (h : SqT K H a xs) : SqT K H' a xs := (exI_keep e).tup h
theorem exI_seq {K : PySem.W.Frag} {H H' : Hp} {a : Addr} {xs : List V} (e : ExI H H') (h : SqL K H a xs) : SqL K H' a xs := by
  rcases h with (h | ⟨o, h⟩) | h
  · exact .inl (.inl (e _ _ h nofun nofun))
  · exact .inl (.inr ⟨o, e _ _ h nofun nofun⟩)
  · exact .inr h
mutual
theorem dp_exI {K : PySem.W.Frag} {H H' : Hp} (s : ExI H H') : ∀ (d : PyData) (v : V), Dp K H v d → Dp K H' v d
  | .none, _, h => by cases h; exact .non
  | .bool _, _, h => by cases h; exact .bl _
  | .int _, _, h => by cases h; exact .int _
  | .str _, _, h => by cases h; exact .str _
  | .list ds, _, h => by
    cases h with
    | lst a b => exact .lst (exI_seq s a) (dpAll_exI s ds _ b)
  | .tuple ds, _, h => by
    cases h with
    | tup a b => exact .tup (exI_tup s a) (dpAll_exI s ds _ b)
  | .dict _, _, h => by cases h
theorem dpAll_exI {K : PySem.W.Frag} {H H' : Hp} (s : ExI H H') : ∀ (ds : List PyData) (vs : List V), DpAll K H vs ds → DpAll K H' vs ds
  | [], _, h => by cases h; exact .nil
  | d :: ds, _, h => by
    cases h with
    | cons a b => exact .cons (dp_exI s d _ a) (dpAll_exI s ds _ b)
end
theorem dr_exI {H H' : Hp} {m c l n : Nat} (d : Dr H m c l n) (s : ExI H H') : Dr H' m c l n := by
  obtain ⟨cs, ls, k, h1, h2, h3, r⟩ := d.ex
  exact ⟨cs, ls, k, s _ _ h1 nofun nofun, s _ _ h2 nofun nofun, s _ _ h3 nofun nofun, r⟩
theorem keep_hide {H : Hp} {m c l n : Nat} (D : Dr H m c l n) : Keep H (hide m l H) := fun b o h t => by
  obtain ⟨cs, ls, k, h1, h2, h3, r⟩ := D.ex
  unfold hide
  rw [if_neg fun e => by
    rcases e with e | e
    · rw [e, h1] at h; cases h; exact t
    · rw [e, h3] at h; cases h; exact t]
  exact h
theorem hide_own {H : Hp} {m c l p : Addr} {xs : List V} (o : Own H m c l p xs) : hide m l H p = some (.lst xs) := by
  unfold hide
  rw [if_neg fun e => by
    rcases e with e | e
    · exact o.nm e
    · exact o.nl e]
  exact o.st
theorem hide_ne {H : Hp} {m l p : Addr} {u : HO} (h : H p = some u) (n1 : p ≠ m) (n2 : p ≠ l) : hide m l H p = some u := by
  unfold hide
  rw [if_neg fun e => by
    rcases e with e | e
    · exact n1 e
    · exact n2 e]
  exact h
theorem exI_hide {m l : Addr} {H : Hp} : ExI (hide m l H) H := exI_same hide_sub
theorem exI_draw {m l l' : Addr} {H0 H H' : Hp} (e : ExI (hide m l H0) H) (k : Kp m l H l' H') : ExI (hide m l H0) H' := fun b o h n1 n2 => by
  have h2 := e b o h n1 n2
  unfold hide at h
  by_cases z : b = m ∨ b = l
  · rw [if_pos z] at h
    cases h
  · exact k.st b o h2 (fun e => z (.inl e)) (fun e => z (.inr e))
end My

namespace My
open PySem PySem.Spec PyProof.Rows L2
/-! ### the least of some numbers, and where it stands first: the mathematics -/
def ab (z : Int) : Int := if z < 0 then -z else z
def mn : List Int → Int
  | [] => 0
  | [a] => a
  | a :: b :: r => if a ≤ mn (b :: r) then a else mn (b :: r)
theorem mn_mem : ∀ {ds : List Int}, ds ≠ [] → mn ds ∈ ds
  | [], h => absurd rfl h
  | [a], _ => List.mem_cons_self
  | a :: b :: r, _ => by
    show (if a ≤ mn (b :: r) then a else mn (b :: r)) ∈ _
    split
    · exact List.mem_cons_self
    · exact List.mem_cons_of_mem _ (mn_mem (List.cons_ne_nil _ _))
theorem mn_le : ∀ {ds : List Int}, ∀ y ∈ ds, mn ds ≤ y
  | [], y, h => by cases h
  | [a], y, h => by
    rw [List.mem_singleton.mp h]
    exact Int.le_refl _
  | a :: b :: r, y, h => by
    show (if a ≤ mn (b :: r) then a else mn (b :: r)) ≤ y
    rcases List.mem_cons.mp h with e | e
    · subst e
      split <;> omega
    · have := mn_le y e
      split <;> omega
theorem mn_eq {ds : List Int} {m : Int} (h : m ∈ ds) (hl : ∀ y ∈ ds, m ≤ y) : m = mn ds := by
  have h1 := mn_le m h
  have h2 := hl _ (mn_mem (List.ne_nil_of_mem h))
  omega
/-- where m stands first -/
def ixf (m : Int) : List Int → Nat
  | [] => 0
  | a :: r => if a = m then 0 else ixf m r + 1
theorem ixf_get {m : Int} : ∀ {ds : List Int}, m ∈ ds → ds[ixf m ds]? = some m
  | [], h => by cases h
  | a :: r, h => by
    unfold ixf
    split
    · rename_i e
      rw [e]
      rfl
    · rename_i e
      rcases List.mem_cons.mp h with e' | e'
      · exact absurd e'.symm e
      · rw [List.getElem?_cons_succ]
        exact ixf_get e'
theorem ixf_not {m : Int} : ∀ {ds : List Int} {i : Nat} {z : Int}, i < ixf m ds → ds[i]? = some z → z ≠ m
  | [], _, _, h, _ => absurd h (Nat.not_lt_zero _)
  | a :: r, i, z, h, e => by
    unfold ixf at h
    split at h
    · exact absurd h (Nat.not_lt_zero _)
    · rename_i hne
      match i, e with
      | 0, e =>
        have : a = z := Option.some.inj e
        rw [← this]
        exact hne
      | i + 1, e => exact ixf_not (ds := r) (i := i) (by omega) (by simpa using e)
/-- where the least stands first -/
def fm (ds : List Int) : Nat := ixf (mn ds) ds
theorem fm_lt {ds : List Int} (h : ds ≠ []) : fm ds < ds.length := (List.getElem?_eq_some_iff.mp (ixf_get (mn_mem h))).1
/-- xs.index(min(xs)) -/
theorem r_first {K : PySem.W.Frag} {H : Hp} {a : Addr} {ds : List Int} {Q : VK} (h : SqL K H a (ds.map V.int)) (hne : ds ≠ []) (q : Q (.int (fm ds : Nat)) H) {m : Int} (hm : m ∈ ds) (hl : ∀ y ∈ ds, m ≤ y) :
    rIndex K (.ref a) [.int m] H Q := by
  have e := mn_eq hm hl
  subst e
  refine ⟨a, ds.map V.int, _, fm ds, .int (mn ds), rfl, rfl, h, rfl, ?_, ?_, ?_, fun i z' hi hz => ?_, q⟩
  · rw [List.all_eq_true]
    intro v hv
    obtain ⟨z, _, rfl⟩ := List.mem_map.mp hv
    rfl
  · rw [List.getElem?_map]
    show Option.map V.int (ds[ixf (mn ds) ds]?) = _
    rw [ixf_get (mn_mem hne)]
    rfl
  · show decide (mn ds = mn ds) = true
    exact decide_eq_true rfl
  · rw [List.getElem?_map] at hz
    cases e : ds[i]? with
    | none => rw [e] at hz; cases hz
    | some z =>
      rw [e] at hz
      cases hz
      have := ixf_not (m := mn ds) hi e
      show decide (z = mn ds) = false
      exact decide_eq_false this
/-! ### signals -/
structure Sig (sig : List Int) : Prop where
  len : sig.length ≤ 64
  bd : ∀ z ∈ sig, -40000 ≤ z ∧ z ≤ 40000
def sigI (sig : List Int) : PyData := .tuple (sig.map .int)
theorem sig_at {K : PySem.W.Frag} {H : Hp} {v : V} {sig : List Int} (h : Dp K H v (sigI sig)) : ∃ a, v = .ref a ∧ SqT K H a (sig.map V.int) := by
  obtain ⟨a, xs, rfl, ha, hd⟩ := dp_tup h
  rw [dpAll_ints hd] at ha
  exact ⟨a, rfl, ha⟩
theorem ints_get {ns : List Int} {i : Nat} {x : V} (h : (ns.map V.int)[i]? = some x) : ∃ z, ns[i]? = some z ∧ x = .int z := by
  rw [List.getElem?_map] at h
  cases e : ns[i]? with
  | none => rw [e] at h; cases h
  | some k => rw [e] at h; exact ⟨k, rfl, (Option.some.inj h).symm⟩
theorem ints_takeS {zs : List Int} {i : Nat} {z : Int} (h : zs[i]? = some z) : (zs.take (i + 1)).map V.int = (zs.take i).map V.int ++ [V.int z] := by
  rw [take_snoc h, List.map_append]
  rfl
theorem noL_ints (ns : List Int) : noL (.tuple (ns.map .int)) = true := by
  show noLs (ns.map .int) = true
  refine noLs_all fun d hd => ?_
  obtain ⟨z, _, rfl⟩ := List.mem_map.mp hd
  rfl
/-- how far the samples of the codes are from a number -/
def Cod.dist (C : Cod) (s : Int × Int) (n : Int) : List Int := (List.range C.moves.length).map fun k => ab (n - (C.led s k).1)
theorem dist_len {C : Cod} {s : Int × Int} {n : Int} : (C.dist s n).length = C.moves.length := by
  unfold Cod.dist
  rw [List.length_map, List.length_range]
theorem dist_ne {C : Cod} (O : C.Ok) {s : Int × Int} {n : Int} : C.dist s n ≠ [] := fun e => by
  have := dist_len (C := C) (s := s) (n := n)
  rw [e] at this
  have := O.m1
  simp at *
  omega
theorem dist_get {C : Cod} {s : Int × Int} {n : Int} {i : Nat} (h : i < C.moves.length) : (C.dist s n)[i]? = some (ab (n - (C.led s i).1)) := by
  unfold Cod.dist
  rw [List.getElem?_map, List.getElem?_range h]
  rfl
def Cod.near (C : Cod) (s : Int × Int) (n : Int) : Nat := fm (C.dist s n)
theorem near_lt {C : Cod} (O : C.Ok) (s : Int × Int) (n : Int) : C.near s n < C.moves.length := by
  have := fm_lt (dist_ne O (s := s) (n := n))
  rw [dist_len] at this
  exact this
def Cod.greedy (C : Cod) (s : Int × Int) : List Int → List Nat
  | [] => []
  | n :: r => C.near s n :: C.greedy (C.led s (C.near s n)) r
theorem greedy_snoc {C : Cod} : ∀ (q : List Int) (s : Int × Int) (n : Int), C.greedy s (q ++ [n]) = C.greedy s q ++ [C.near (C.run s (C.greedy s q)) n]
  | [], _, _ => rfl
  | j :: r, s, n => by
    show C.near s j :: C.greedy (C.led s (C.near s j)) (r ++ [n]) = _
    rw [greedy_snoc r _ n]
    rfl
theorem greedy_len {C : Cod} : ∀ (q : List Int) (s : Int × Int), (C.greedy s q).length = q.length
  | [], _ => rfl
  | j :: r, s => congrArg (· + 1) (greedy_len r _)
theorem greedy_lt {C : Cod} (O : C.Ok) : ∀ (q : List Int) (s : Int × Int), ∀ k ∈ C.greedy s q, k < C.moves.length
  | [], _, _, h => by cases h
  | j :: r, s, k, h => by
    rcases List.mem_cons.mp h with e | e
    · rw [e]
      exact near_lt O s j
    · exact greedy_lt O r _ k e
/-- the distances of a signal and of what is heard -/
def dsts (sig lv : List Int) : List Int := (sig.zip lv).map fun p => ab (p.1 - p.2)
def err (sig lv : List Int) : Int := (dsts sig lv).sum
theorem dsts_len {sig lv : List Int} : (dsts sig lv).length = min sig.length lv.length := by
  unfold dsts
  rw [List.length_map, List.length_zip]
theorem dsts_get {sig lv : List Int} {i : Nat} {a b : Int} (h1 : sig[i]? = some a) (h2 : lv[i]? = some b) : (dsts sig lv)[i]? = some (ab (a - b)) := by
  unfold dsts
  rw [List.getElem?_map, (List.getElem?_zip_eq_some (z := (a, b))).mpr ⟨h1, h2⟩]
  rfl
theorem sum_bd {B : Int} : ∀ {l : List Int}, (∀ z ∈ l, 0 ≤ z ∧ z ≤ B) → 0 ≤ l.sum ∧ l.sum ≤ B * l.length
  | [], _ => by simp
  | a :: r, h => by
    have ih := sum_bd fun z hz => h z (List.mem_cons_of_mem _ hz)
    have ha := h a List.mem_cons_self
    rw [List.sum_cons, List.length_cons]
    have e : B * ((r.length + 1 : Nat) : Int) = B * (r.length : Int) + B := by
      rw [Int.natCast_succ, Int.mul_add, Int.mul_one]
    rw [e]
    omega
theorem err_bd {C : Cod} (O : C.Ok) {sig : List Int} (S : Sig sig) (s : Int × Int) (row : List Nat) : (err sig (C.lev s row)).natAbs < 2 ^ 64 := by
  have h : ∀ z ∈ dsts sig (C.lev s row), 0 ≤ z ∧ z ≤ 100000 := fun z hz => by
    obtain ⟨p, hp, rfl⟩ := List.mem_map.mp hz
    have h1 := S.bd _ (List.of_mem_zip hp).1
    have h2 := lev_in O row s _ (List.of_mem_zip hp).2
    have := O.l1
    have := O.h2
    show 0 ≤ ab _ ∧ ab _ ≤ _
    unfold ab
    split <;> omega
  have := sum_bd h
  have hl := dsts_len (sig := sig) (lv := C.lev s row)
  have := S.len
  show (dsts sig (C.lev s row)).sum.natAbs < _
  omega
end My

namespace My
open PySem PySem.Spec PyProof.Rows L2
section
variable {P : Program} {w : World} {K : PySem.W.Frag} {mg : Str → Option Value} {base : Heap}
def sp_samples (K : PySem.W.Frag) : Sp := fun vs H Q _ => ∃ (c r x : V) (C : Cod) (row : List Nat) (s : Int × Int), vs = [c, r, x] ∧ C.Ok ∧ Dp K H c C.dat ∧ Dp K H r (rowI row) ∧ C.Row row ∧ Dp K H x (pairI s) ∧ C.St s ∧
  ∀ p H', Same H H' → H p = none → H' p = some (.lst ((C.lev s row).map V.int)) → Q (.ref p) H'
theorem ok_samples_along (T : Txt K mg) : FnOk P w K mg base CX0 5 T.f_samples_along T.d_samples_along ["coder", "row", "state"] (sp_samples K) := by
  refine T.F_samples_along.ok sc_samples_along (fun vs H Q E h => ?_) (fun cdv A outer s H vs Q E hr h => ?_)
  · obtain ⟨c, r, x, C, row, s, rfl, _⟩ := h
    rfl
  · obtain ⟨c, r, x, C, row, st, rfl, O, hc, hrow, R, hx, hst, q⟩ := h
    refine ⟨_,
(pss_cons (ps_set (i := 3) sc_samples_along.nd rfl (Or.inl rfl) (pe_lst pa_nil))
      (pss_cons (ps_set (i := 4) sc_samples_along.nd rfl (Or.inl rfl) (pv 2))
      (pss_cons (ps_for PassesOwn.never rfl (pi_tup (pv 1)) (pg_name (i := 5) sc_samples_along.nd rfl (Or.inl rfl)) (pss_cons (ps_set (i := 4) sc_samples_along.nd rfl (Or.inl rfl) (pe_call (ok_state_behind T) (hr.mono (by decide)) (by rfl) T.g_state_behind T.F_state_behind.kp T.b_state_behind .nil pass0 (pa_cons (pv 0) (pa_cons (pv 4) (pa_cons (pv 5) pa_nil)))))
      (pss_one (ps_expr (pe_bm PySem.F.plainAttrs_list PySem.F.slot_list_append PySem.F.type_list_append mt_append (pv 3) (pa_cons (pe_ix ix_tup (pv 4) pe_int (fun _ _ => rfl)) pa_nil))))))
      (pss_one (ps_ret (pv 3))))))
, ?_⟩
    refine ⟨by decide, fun l hl => ?_⟩
    have s1 := same_new (o := .lst []) hl
    refine ⟨_, rfl, ?_⟩
    obtain ⟨a, rfl, ha⟩ := row_at hrow
    refine ⟨.ref a, rfl, a, rfl, ⟨_, same_tup s1 ha⟩, ?_⟩
    refine for_tup (K := K) (a := a) (xs := rowV row) (fun i σ H' => ∃ v y, σ = [some c, some (.ref a), some x, some (.ref l), some v, y] ∧ Same H H' ∧ H' l = some (.lst ((C.lev st (row.take i)).map V.int)) ∧ Dp K H' v (pairI (C.run st (row.take i))))
      ⟨x, none, rfl, s1, upd_same, dp_same s1 _ _ hx⟩ ?_ ?_ ?_
    · rintro i σ H' _ ⟨_, _, _, s2, _⟩
      exact same_tup s2 ha
    · rintro i v σ H' hi ⟨z, y, rfl, s2, hL, hD⟩
      obtain ⟨k, hk, rfl⟩ := rowV_get hi
      have hlen : i < 2000 := by
        have h1 := (List.getElem?_eq_some_iff.mp hk).1
        have := R.len
        omega
      refine ⟨c, rfl, z, rfl, .int k, rfl, c, z, C, _, k, rfl, O, dp_same s2 _ _ hc, hD, run_St O _ hst, R.lt k (List.mem_of_getElem? hk), fun p hp => ?_⟩
      have s3 := same_new (o := .tup [.int (C.led (C.run st (row.take i)) k).1, .int (C.led (C.run st (row.take i)) k).2]) hp
      refine ⟨.ref l, rfl, .inl ⟨rfl, _, SqL.of (s3 _ _ hL)⟩, .ref p, rfl, p, _, 0, _, rfl, rfl, upd_tup, atI_nat (j := 0) rfl, l, _, _, rfl, rfl, s3 _ _ hL, ?_, ?_⟩
      · rw [List.length_map, lev_len, List.length_take]
        exact Nat.lt_of_le_of_lt (Nat.min_le_left _ _) (Nat.lt_trans hlen (by decide))
      · refine ⟨_, _, rfl, ?_, ?_, ?_⟩
        · exact same_put (s2.trans s3) hl
        · rw [upd_same, take_snoc hk, lev_snoc, List.map_append]
          rfl
        · rw [take_snoc hk, run_snoc]
          exact dp_mkpair (sqt_set (s3 _ _ hL) upd_tup)
    · rintro σ H' ⟨z, y, rfl, s2, hL, hD⟩
      have e : row.take (rowV row).length = row := by
        unfold rowV
        rw [List.length_map, List.take_length]
      rw [e] at hL
      exact ⟨.ref l, rfl, q l H' s2 hl hL⟩
end
end My

namespace My
open PySem PySem.Spec PyProof.Rows L2
/-! ### blocks of bytes: the mathematics -/
theorem fdp (a : Int) {b : Int} (h : 0 ≤ b) : Int.fdiv a b = a / b := Int.fdiv_eq_ediv_of_nonneg a h
theorem fmp (a : Int) {b : Int} (h : 0 ≤ b) : Int.fmod a b = a % b := Int.fmod_eq_emod_of_nonneg a h
def pkAt (row : List Nat) (i : Nat) : Int := (row.getD (2 * i) 0 : Int) + 16 * (row.getD (2 * i + 1) 0 : Int)
def pk (row : List Nat) : List Int := (List.range ((row.length + 1) / 2)).map (pkAt row)
theorem pk_len (row : List Nat) : (pk row).length = (row.length + 1) / 2 := by
  unfold pk
  rw [List.length_map, List.length_range]
theorem pk_get {row : List Nat} {i : Nat} (h : i < (row.length + 1) / 2) : (pk row)[i]? = some (pkAt row i) := by
  unfold pk
  rw [List.getElem?_map, List.getElem?_range h]
  rfl
def wd (s : Int × Int) : Int := s.1 % 65536
def inner (s : Int × Int) (row : List Nat) : List Int := [wd s / 256, wd s % 256, s.2, (row.length : Int)] ++ pk row
def blk (s : Int × Int) (row : List Nat) : List Int := [165, 90] ++ inner s row ++ [(inner s row).sum % 256]
theorem inner_len (s : Int × Int) (row : List Nat) : (inner s row).length = 4 + (row.length + 1) / 2 := by
  unfold inner
  rw [List.length_append, pk_len]
  rfl
theorem blk_len (s : Int × Int) (row : List Nat) : (blk s row).length = 7 + (row.length + 1) / 2 := by
  unfold blk
  rw [List.length_append, List.length_append, inner_len]
  simp
  omega
theorem blk_head (s : Int × Int) (row : List Nat) : blk s row = 165 :: 90 :: (wd s / 256) :: (wd s % 256) :: s.2 :: (row.length : Int) :: (pk row ++ [(inner s row).sum % 256]) := rfl
/-- the bytes of bl stand at the place b -/
def Sub (ds : List Int) (b : Nat) (bl : List Int) : Prop := ∀ i z, bl[i]? = some z → ds[b + i]? = some z
theorem sub_app {pre bl post : List Int} : Sub (pre ++ (bl ++ post)) pre.length bl := fun i z h => by
  have hi := (List.getElem?_eq_some_iff.mp h).1
  rw [List.getElem?_append_right (by omega), show pre.length + i - pre.length = i by omega, List.getElem?_append_left hi]
  exact h
theorem Sub.slice {ds bl : List Int} {b : Nat} (h : Sub ds b bl) {i n : Nat} (hn : i + n ≤ bl.length) : (ds.drop (b + i)).take n = (bl.drop i).take n := by
  refine List.ext_getElem? fun j => ?_
  by_cases hj : j < n
  · rw [List.getElem?_take_of_lt hj, List.getElem?_take_of_lt hj, List.getElem?_drop, List.getElem?_drop]
    have hb : bl[i + j]? = some bl[i + j] := List.getElem?_eq_getElem (by omega)
    rw [hb, ← h _ _ hb]
    congr 1
    omega
  · rw [List.getElem?_eq_none (by rw [List.length_take]; omega), List.getElem?_eq_none (by rw [List.length_take]; omega)]
theorem Sub.pk {ds : List Int} {b : Nat} {s : Int × Int} {row : List Nat} (h : Sub ds b (blk s row)) {i : Nat} (hi : i < (row.length + 1) / 2) : ds[b + 6 + i]? = some (pkAt row i) := by
  have := h (6 + i) (pkAt row i) (by
    rw [blk_head]
    rw [show 6 + i = i + 6 by omega]
    simp only [List.getElem?_cons_succ]
    rw [List.getElem?_append_left (by rw [pk_len]; exact hi), pk_get hi])
  rw [← this]
  congr 1
  omega
theorem Sub.sum {ds : List Int} {b : Nat} {s : Int × Int} {row : List Nat} (h : Sub ds b (blk s row)) : ds[b + 6 + (row.length + 1) / 2]? = some ((inner s row).sum % 256) := by
  have := h (6 + (row.length + 1) / 2) ((inner s row).sum % 256) (by
    rw [blk_head]
    rw [show 6 + (row.length + 1) / 2 = (row.length + 1) / 2 + 6 by omega]
    simp only [List.getElem?_cons_succ]
    rw [List.getElem?_append_right (by rw [pk_len]; exact Nat.le_refl _), pk_len, Nat.sub_self]
    rfl)
  rw [← this]
  congr 1
  omega
theorem Sub.inn {ds : List Int} {b : Nat} {s : Int × Int} {row : List Nat} (h : Sub ds b (blk s row)) : (ds.drop (b + 2)).take (4 + (row.length + 1) / 2) = inner s row := by
  rw [h.slice (i := 2) (n := 4 + (row.length + 1) / 2) (by rw [blk_len]; omega)]
  show (inner s row ++ [(inner s row).sum % 256]).take _ = _
  rw [List.take_append_of_le_length (by rw [inner_len]; exact Nat.le_refl _), ← inner_len s row, List.take_length]
theorem getD_lt {row : List Nat} {m : Nat} (h : ∀ k ∈ row, k < m) (i : Nat) : row.getD i 0 < m ∨ row.getD i 0 = 0 := by
  rw [List.getD_eq_getElem?_getD]
  cases e : row[i]? with
  | none => exact .inr rfl
  | some k => exact .inl (h k (List.mem_of_getElem? e))
theorem getD_out {row : List Nat} {i : Nat} (h : row.length ≤ i) : row.getD i 0 = 0 := by
  rw [List.getD_eq_getElem?_getD, List.getElem?_eq_none h]
  rfl
theorem getD_in {row : List Nat} {m i : Nat} (h : ∀ k ∈ row, k < m) (hi : i < row.length) : row.getD i 0 < m := by
  rw [List.getD_eq_getElem?_getD, List.getElem?_eq_getElem hi]
  exact h _ (List.getElem_mem hi)
/-- a row in blocks -/
structure Parts (rs : List (List Nat)) : Prop where
  ne : ∀ r ∈ rs, r ≠ []
  le : ∀ r ∈ rs, r.length ≤ 255
def fileB (C : Cod) (s : Int × Int) : List (List Nat) → List Int
  | [] => []
  | r :: rs => blk s r ++ fileB C (C.run s r) rs
theorem fileB_snoc {C : Cod} : ∀ (rs : List (List Nat)) (s : Int × Int) (r : List Nat), fileB C s (rs ++ [r]) = fileB C s rs ++ blk (C.run s rs.flatten) r
  | [], s, r => by
    show blk s r ++ [] = [] ++ blk s r
    rw [List.append_nil, List.nil_append]
  | q :: rs, s, r => by
    show blk s q ++ fileB C (C.run s q) (rs ++ [r]) = blk s q ++ fileB C (C.run s q) rs ++ _
    rw [fileB_snoc rs _ r, List.append_assoc, List.flatten_cons, run_app]
theorem fileB_app {C : Cod} : ∀ (rs qs : List (List Nat)) (s : Int × Int), fileB C s (rs ++ qs) = fileB C s rs ++ fileB C (C.run s rs.flatten) qs
  | [], qs, s => rfl
  | q :: rs, qs, s => by
    show blk s q ++ fileB C (C.run s q) (rs ++ qs) = blk s q ++ fileB C (C.run s q) rs ++ _
    rw [fileB_app rs qs _, List.append_assoc, List.flatten_cons, run_app]
theorem Parts.snoc {rs : List (List Nat)} {r : List Nat} (h : Parts rs) (h1 : r ≠ []) (h2 : r.length ≤ 255) : Parts (rs ++ [r]) :=
  ⟨fun q hq => by
    rcases List.mem_append.mp hq with e | e
    · exact h.ne q e
    · rw [List.mem_singleton.mp e]; exact h1,
   fun q hq => by
    rcases List.mem_append.mp hq with e | e
    · exact h.le q e
    · rw [List.mem_singleton.mp e]; exact h2⟩
theorem fileB_len {C : Cod} : ∀ {rs : List (List Nat)} (s : Int × Int), Parts rs → (fileB C s rs).length ≤ 8 * rs.flatten.length
  | [], _, _ => Nat.zero_le _
  | r :: rs, s, h => by
    show (blk s r ++ fileB C (C.run s r) rs).length ≤ _
    have ih := fileB_len (C := C) (rs := rs) (C.run s r) ⟨fun q hq => h.ne q (List.mem_cons_of_mem _ hq), fun q hq => h.le q (List.mem_cons_of_mem _ hq)⟩
    have h1 : 0 < r.length := List.length_pos_iff.mpr (h.ne r List.mem_cons_self)
    rw [List.length_append, blk_len, List.flatten_cons, List.length_append]
    omega
/-- ds is a file of the row from s -/
def FileOf (C : Cod) (s : Int × Int) (row : List Nat) (ds : List Int) : Prop := ∃ rs, Parts rs ∧ rs.flatten = row ∧ ds = fileB C s rs
theorem FileOf.len {C : Cod} {s : Int × Int} {row : List Nat} {ds : List Int} (h : FileOf C s row ds) : ds.length ≤ 8 * row.length := by
  obtain ⟨rs, p, rfl, rfl⟩ := h
  exact fileB_len s p
theorem FileOf.snoc {C : Cod} {s : Int × Int} {row r : List Nat} {ds : List Int} (h : FileOf C s row ds) (h1 : r ≠ []) (h2 : r.length ≤ 255) : FileOf C s (row ++ r) (ds ++ blk (C.run s row) r) := by
  obtain ⟨rs, p, rfl, rfl⟩ := h
  exact ⟨rs ++ [r], p.snoc h1 h2, by simp, (fileB_snoc rs s r).symm⟩
theorem FileOf.nil {C : Cod} {s : Int × Int} : FileOf C s [] [] := ⟨[], ⟨nofun, nofun⟩, rfl, rfl⟩
theorem wd_bd (s : Int × Int) : 0 ≤ wd s ∧ wd s < 65536 := by
  unfold wd
  omega
theorem pkAt_bd {row : List Nat} {m : Nat} (hm : m ≤ 16) (h : ∀ k ∈ row, k < m) (i : Nat) : 0 ≤ pkAt row i ∧ pkAt row i ≤ 255 ∧ pkAt row i % 16 = (row.getD (2 * i) 0 : Nat) ∧ pkAt row i / 16 = (row.getD (2 * i + 1) 0 : Nat) := by
  have h1 := getD_lt h (2 * i)
  have h2 := getD_lt h (2 * i + 1)
  unfold pkAt
  omega
/-- t[lo:hi] of a tuple -/
theorem sl_partV {K : PySem.W.Frag} {H : Hp} {a : Addr} {xs : List V} {lo hi : Nat} {Q : VK} (h : SqT K H a xs) (h1 : lo ≤ xs.length) (k : ∀ b H', Same H H' → SqT K H' b ((xs.drop lo).take (hi - lo)) → Q (.ref b) H') :
    rSlA K (.ref a) (some (lo : Int)) (some (hi : Int)) H Q := by
  have e : (xs.drop (min lo xs.length)).take (min hi xs.length - min lo xs.length) = (xs.drop lo).take (hi - lo) := by
    rw [Nat.min_eq_left h1]
    by_cases hh : hi ≤ xs.length
    · rw [Nat.min_eq_left hh]
    · rw [Nat.min_eq_right (by omega), List.take_of_length_le (by rw [List.length_drop]; exact Nat.le_refl _), List.take_of_length_le (by rw [List.length_drop]; omega)]
  refine ⟨a, xs, rfl, h, fun ⟨e0, e1⟩ => ?_, fun _ p hp => ?_⟩
  · rw [HT.sIx_nat] at e0 e1
    refine k _ H (Same.refl H) ?_
    rw [← e, e0, e1, List.drop_zero, Nat.sub_zero, List.take_length]
    exact h
  · refine k _ _ (same_new hp) ?_
    have e2 : cutV xs (some (lo : Int)) (some (hi : Int)) = (xs.drop lo).take (hi - lo) := by
      unfold cutV
      rw [HT.sIx_nat, HT.sIx_nat]
      exact e
    rw [e2]
    exact upd_tup
/-- range(0, n, c) -/
theorem rg_up {n c : Nat} (h1 : 1 ≤ c) (h2 : c ≤ 1000) (hn : n ≤ 1000000) : RgC 0 (n : Int) (c : Int) ((n + c - 1) / c) := by
  have e : Builtin.Range.rangeSize 0 (n : Int) (c : Int) = (((n + c - 1) / c : Nat) : Int) := by
    unfold Builtin.Range.rangeSize
    rw [if_pos (by omega)]
    split
    · rename_i h
      have h0 : 0 < n := by omega
      rw [show n + c - 1 = (n - 1) + c by omega, Nat.add_div_right _ (by omega)]
      have : ((n : Int) - 0 - 1) = ((n - 1 : Nat) : Int) := by omega
      rw [this]
      rw [Int.natCast_succ, Int.natCast_ediv]
    · have h0 : n = 0 := by omega
      subst h0
      rw [Nat.div_eq_of_lt (by omega)]
      rfl
  have hle : (n + c - 1) / c ≤ n + c - 1 := Nat.div_le_self _ _
  obtain ⟨q, hq⟩ : ∃ q, q = (n + c - 1) / c := ⟨_, rfl⟩
  rw [← hq] at e hle ⊢
  refine ⟨by omega, by omega, ?_, e⟩
  unfold Builtin.Range.small
  rw [e]
  simp only [Builtin.Range.rangeFitsLong, Bool.and_eq_true, Bool.or_eq_true, decide_eq_true_eq, beq_iff_eq]
  rw [if_pos (show (c : Int) > 0 by omega), Bool.and_eq_true, decide_eq_true_eq, decide_eq_true_eq]
  omega
end My

/-! clips -/
namespace My
open PySem PySem.Spec PyProof.Rows L2
/-! equality of data made of ints and tuples -/
mutual
def pur : PyData → Bool
  | .int _ => true
  | .tuple ds => purs ds
  | _ => false
def purs : List PyData → Bool
  | [] => true
  | d :: r => pur d && purs r
end
mutual
theorem eqv_pur : ∀ d e : PyData, pur d = true → pur e = true → (PyData.eqv d e = true ↔ d = e)
  | .int a, .int b, _, _ => by
    show ((a == b) = true ↔ _)
    rw [beq_iff_eq]
    exact ⟨fun h => (by rw [h]), fun h => (by injection h)⟩
  | .tuple a, .tuple b, h1, h2 => by
    show (PyData.eqvAll a b = true ↔ _)
    rw [eqvs_pur a b h1 h2]
    exact ⟨fun h => (by rw [h]), fun h => (by injection h)⟩
  | .int a, .tuple b, _, _ => ⟨fun h => (by cases h), fun h => (by cases h)⟩
  | .tuple a, .int b, _, _ => ⟨fun h => (by cases h), fun h => (by cases h)⟩
  | .none, _, h, _ => by cases h
  | .bool _, _, h, _ => by cases h
  | .str _, _, h, _ => by cases h
  | .list _, _, h, _ => by cases h
  | .dict _, _, h, _ => by cases h
  | .int _, .none, _, h => by cases h
  | .int _, .bool _, _, h => by cases h
  | .int _, .str _, _, h => by cases h
  | .int _, .list _, _, h => by cases h
  | .int _, .dict _, _, h => by cases h
  | .tuple _, .none, _, h => by cases h
  | .tuple _, .bool _, _, h => by cases h
  | .tuple _, .str _, _, h => by cases h
  | .tuple _, .list _, _, h => by cases h
  | .tuple _, .dict _, _, h => by cases h
theorem eqvs_pur : ∀ a b : List PyData, purs a = true → purs b = true → (PyData.eqvAll a b = true ↔ a = b)
  | [], [], _, _ => ⟨fun _ => rfl, fun _ => rfl⟩
  | [], _ :: _, _, _ => ⟨fun h => (by cases h), fun h => (by cases h)⟩
  | _ :: _, [], _, _ => ⟨fun h => (by cases h), fun h => (by cases h)⟩
  | d :: a, e :: b, h1, h2 => by
    obtain ⟨p1, p2⟩ := Bool.and_eq_true_iff.mp (show (pur d && purs a) = true from h1)
    obtain ⟨q1, q2⟩ := Bool.and_eq_true_iff.mp (show (pur e && purs b) = true from h2)
    show ((PyData.eqv d e && PyData.eqvAll a b) = true ↔ _)
    rw [Bool.and_eq_true_iff, eqv_pur d e p1 q1, eqvs_pur a b p2 q2]
    exact ⟨fun ⟨x, y⟩ => (by rw [x, y]), fun h => (by injection h with x y; exact ⟨x, y⟩)⟩
end
theorem purs_map {α : Type} {f : α → PyData} (h : ∀ x, pur (f x) = true) : ∀ l : List α, purs (l.map f) = true
  | [] => rfl
  | x :: l => by
    show (pur (f x) && purs (l.map f)) = true
    rw [h x, purs_map h l]
    rfl
theorem pur_row (r : List Nat) : pur (rowI r) = true := purs_map (f := fun k : Nat => PyData.int (k : Int)) (fun _ => rfl) r
theorem pur_pair (s : Int × Int) : pur (pairI s) = true := rfl
theorem pur_cod (C : Cod) : pur C.dat = true := by
  show (true && (true && (purs (C.steps.map .int) && (purs (C.moves.map pairI) && (true && true))))) = true
  rw [purs_map (f := PyData.int) (fun _ => rfl), purs_map (f := pairI) (fun _ => rfl)]
  rfl
theorem lay_map {α : Type} {f : α → PyData} {n : Nat} (h : ∀ x, (f x).canLay0 = true ∧ (f x).depth ≤ n) : ∀ l : List α, PyData.canLayAll0 (l.map f) = true ∧ PyData.depthAll (l.map f) ≤ n
  | [] => ⟨rfl, Nat.zero_le _⟩
  | x :: l => by
    obtain ⟨h1, h2⟩ := lay_map h l
    exact ⟨by show ((f x).canLay0 && PyData.canLayAll0 (l.map f)) = true; rw [(h x).1, h1]; rfl, by show max (f x).depth (PyData.depthAll (l.map f)) ≤ n; have := (h x).2; omega⟩
theorem shaped_rowC (r : List Nat) : SeqAt.shaped (rowI r) = true := by
  obtain ⟨h1, h2⟩ := lay_map (f := fun k : Nat => PyData.int (k : Int)) (n := 0) (fun _ => ⟨rfl, Nat.le_refl _⟩) r
  show (PyData.canLayAll0 (r.map _) && decide (PyData.depthAll (r.map _) + 1 ≤ 64)) = true
  rw [h1, decide_eq_true (by omega)]
  rfl
theorem shaped_pairC (s : Int × Int) : SeqAt.shaped (pairI s) = true := rfl
theorem shaped_cod (C : Cod) : SeqAt.shaped C.dat = true := by
  obtain ⟨h1, h2⟩ := lay_map (f := PyData.int) (n := 0) (fun _ => ⟨rfl, Nat.le_refl _⟩) C.steps
  obtain ⟨h3, h4⟩ := lay_map (f := pairI) (n := 1) (fun _ => ⟨rfl, Nat.le_refl _⟩) C.moves
  show ((true && (true && (PyData.canLayAll0 (C.steps.map .int) && (PyData.canLayAll0 (C.moves.map pairI) && (true && true))))) && decide (max 0 (max 0 (max (PyData.depthAll (C.steps.map .int) + 1) (max (PyData.depthAll (C.moves.map pairI) + 1) (max 0 0)))) + 1 ≤ 64)) = true
  rw [h1, h3, decide_eq_true (by omega)]
  rfl
theorem eqv_dec {d e : PyData} (h1 : pur d = true) (h2 : pur e = true) [Decidable (d = e)] : PyData.eqv d e = decide (d = e) := by
  by_cases h : d = e
  · rw [(eqv_pur d e h1 h2).mpr h, decide_eq_true h]
  · rw [decide_eq_false h]
    cases hb : PyData.eqv d e with
    | false => rfl
    | true => exact absurd ((eqv_pur d e h1 h2).mp hb) h
noncomputable instance decCod : DecidableEq Cod := fun a b => Classical.propDecidable (a = b)
theorem eqv_codC (C D : Cod) : PyData.eqv C.dat D.dat = decide (C = D) := by
  open Classical in rw [eqv_dec (pur_cod C) (pur_cod D)]
  exact decide_eq_decide.mpr ⟨dat_inj, fun h => by rw [h]⟩
theorem eqv_rowC (r q : List Nat) : PyData.eqv (rowI r) (rowI q) = decide (r = q) := by
  open Classical in rw [eqv_dec (pur_row r) (pur_row q)]
  refine decide_eq_decide.mpr ⟨fun h => row_inj (by injection h), fun h => by rw [h]⟩
theorem eqv_pairC (s t : Int × Int) : PyData.eqv (pairI s) (pairI t) = decide (s = t) := by
  open Classical in rw [eqv_dec (pur_pair s) (pur_pair t)]
  exact decide_eq_decide.mpr ⟨pairI_inj, fun h => by rw [h]⟩
theorem same_put2 {H H' : Hp} {p : Addr} {o : HO} (s : Same H H') (h : H p = none) : Same H (upd H' p o) := fun b u e => by
  rw [upd_ne (ne_of_none e h)]
  exact s b u e
section
variable {P : Program} {w : World} {K : PySem.W.Frag} {mg : Str → Option Value} {base : Heap}
theorem okDD {x qual : Str} {params : Arguments} {body : List Stmt} {scope : Scope} {f : Addr} {fd : FuncData} {N ps : List Str} {k : Nat} {sp : Sp}
    (F : ∃ dv q, FunD K x qual params body scope dv [("state", V.ref q)] f fd) (S : FnScope N ps scope) (len : ∀ vs H Q E, sp vs H Q E → vs.length = ps.length)
    (hbody : ∀ (cdv : Value) (A : Around) (outer : List Env) (s : Shared) (H : Hp) (vs : List V) (Q : VK) (E : XK), Room k (A.deeper (envOfC qual scope s.heap.objs.size f cdv)) → sp vs H Q E →
      ∃ t, PSs (cxOf (L2.CX P w) P w K mg base N qual scope f cdv A outer s H E) body t ∧ t { nx := fun _ H' => Q .non H', rt := Q } (start N vs) H) : FnOk P w K mg base (L2.CX P w) (k + 1) f fd ps sp := by
  obtain ⟨dv, q, F⟩ := F
  exact F.ok S len hbody
/-- a clip -/
def clO (T : Txt K mg) (dx : Addr) (c r x : V) : HO := .ins T.C_Clip dx [("_coder", c), ("_codes", r), ("_state", x)]
/-- what a clip at p has -/
structure ClS (T : Txt K mg) (H : Hp) (p : Addr) (C : Cod) (row : List Nat) (s : Int × Int) : Prop where
  ex : ∃ dx c r x, H p = some (clO T dx c r x) ∧ Dp K H c C.dat ∧ Dp K H r (rowI row) ∧ Dp K H x (pairI s)
  O : C.Ok
  R : C.Row row
  St : C.St s
theorem ClS.same {T : Txt K mg} {H H' : Hp} {p : Addr} {C : Cod} {row : List Nat} {s : Int × Int} (h : ClS T H p C row s) (e : Same H H') : ClS T H' p C row s := by
  obtain ⟨dx, c, r, x, h1, h2, h3, h4⟩ := h.ex
  exact ⟨⟨dx, c, r, x, e _ _ h1, dp_same e _ _ h2, dp_same e _ _ h3, dp_same e _ _ h4⟩, h.O, h.R, h.St⟩
/-- what a clip's making asks, refusals in their order -/
def ClipE (T : Txt K mg) (p dx : Addr) (c r x : V) (H : Hp) (Q : VK) (E : XK) : Prop := ∃ (dc : PyData) (rr : Option (List PyData)) (dX : PyData), Dp K H c dc ∧ Th K H r rr ∧ Dp K H x dX ∧
  (∀ y z, FltV (firstF dc) y z → TwoE T.C_BadCoder "part" "number" H E y z) ∧ ∀ C : Cod, C.Ok → dc = C.dat → (∀ i j, rowRes C rr = some (i, j) → RowE T.C_BadRow H E i j) ∧
  ∀ row : List Nat, rr = some (row.map fun k : Nat => PyData.int (k : Int)) → C.Row row → (stateD C dX = false → NilE T.C_OutOfPlace H E) ∧ ∀ st, dX = pairI st → C.St st → ∀ H1, Same H H1 → Q .non (upd H1 p (clO T dx c r x))
def sp_Clip_init (T : Txt K mg) : Sp := fun vs H Q E => ∃ (p dx : Addr) (c r x : V), vs = [.ref p, c, r, x] ∧ H p = some (.ins T.C_Clip dx []) ∧ ClipE T p dx c r x H Q E
theorem ok_Clip_init (T : Txt K mg) : FnOk P w K mg base (L2.CX P w) 8 T.f_Clip_init T.d_Clip_init ["self", "coder", "codes", "state"] (sp_Clip_init T) := by
  refine okDD T.F_Clip_init sc_Clip_init (fun vs H Q E h => ?_) (fun cdv A outer s H vs Q E hr h => ?_)
  · obtain ⟨p, dx, c, r, x, rfl, _⟩ := h
    rfl
  · obtain ⟨p, dx, c, r, x, rfl, hp, dc, rr, dX, hc, hrr, hx, q1, q2⟩ := h
    refine ⟨_,
(pss_cons (ps_expr (pe_call (ok_need_coder T) (hr.mono (by decide)) (by rfl) T.g_need_coder T.F_need_coder.kp T.b_need_coder .nil (passes_call (takes_of rfl rfl rfl rfl) (fun _ _ _ _ h => h)) (pa_cons (pv 1) pa_nil)))
      (pss_cons (ps_expr (pe_call (ok_need_row T) (hr.mono (by decide)) (by rfl) T.g_need_row T.F_need_row.kp T.b_need_row .nil (passes_call (takes_of rfl rfl rfl rfl) (fun _ _ _ _ h => h)) (pa_cons (pv 1) (pa_cons (pv 2) pa_nil))))
      (pss_cons (ps_expr (pe_call (ok_need_state T) (hr.mono (by decide)) (by rfl) T.g_need_state T.F_need_state.kp T.b_need_state .nil (passes_call (takes_of rfl rfl rfl rfl) (fun _ _ _ _ h => h)) (pa_cons (pv 1) (pa_cons (pv 3) pa_nil))))
      (pss_cons (ps_fld (pv 0) (pv 1) rfl)
      (pss_cons (ps_fld (pv 0) (pv 2) rfl)
      (pss_one (ps_fld (pv 0) (pv 3) rfl)))))))
, ?_⟩
    refine ⟨c, rfl, c, _, rfl, hc, fun h0 H1 s1 => ?_, q1⟩
    obtain ⟨C, O, rfl⟩ := firstF_cod h0
    obtain ⟨q3, q4⟩ := q2 C O rfl
    refine ⟨_, rfl, _, rfl, c, r, C, rr, rfl, dp_same s1 _ _ hc, hrr.same s1, fun h2 H2 s2 => ?_, fun i j e => (q3 i j e).same s1⟩
    obtain ⟨row, rfl, R⟩ := rowRes_row h2
    obtain ⟨q5, q6⟩ := q4 row rfl R
    have s12 := s1.trans s2
    refine ⟨_, rfl, _, rfl, c, x, C, dX, rfl, dp_same s12 _ _ hc, dp_same s12 _ _ hx, fun h3 H3 s3 => ?_, fun h3 => (q5 h3).same s12⟩
    obtain ⟨st, rfl, hst⟩ := stateD_out h3
    have s13 := s12.trans s3
    refine ⟨_, rfl, _, rfl, p, T.C_Clip, dx, _, rfl, s13 _ _ hp, T.cl_Clip, T.na_Clip__coder, by decide, ?_⟩
    refine ⟨_, rfl, _, rfl, p, T.C_Clip, dx, _, rfl, upd_same, T.cl_Clip, T.na_Clip__codes, by show 1 < 1000; decide, ?_⟩
    refine ⟨_, rfl, _, rfl, p, T.C_Clip, dx, _, rfl, upd_same, T.cl_Clip, T.na_Clip__state, by show 2 < 1000; decide, ?_⟩
    rw [upd_upd, upd_upd]
    exact q6 st rfl hst H3 s13
def sp_Clip_get (T : Txt K mg) (f : V → V → V → V) : Sp := fun vs H Q _ => ∃ (p dx : Addr) (c r x : V), vs = [.ref p] ∧ H p = some (clO T dx c r x) ∧ Q (f c r x) H
theorem ok_Clip_coder (T : Txt K mg) : FnOk P w K mg base CX0 1 T.f_Clip_coder T.d_Clip_coder ["self"] (sp_Clip_get T fun c _ _ => c) := by
  refine T.F_Clip_coder.ok sc_Clip_coder (fun vs H Q E h => ?_) (fun cdv A outer s H vs Q E hr h => ?_)
  · obtain ⟨p, dx, c, r, x, rfl, _⟩ := h
    rfl
  · obtain ⟨p, dx, c, r, x, rfl, hp, q⟩ := h
    refine ⟨_,
(pss_one (ps_ret (pe_fld (pv 0) rfl)))
, ?_⟩
    exact ⟨_, rfl, p, T.C_Clip, dx, _, _, rfl, hp, T.cl_Clip, T.na_Clip__coder, rfl, q⟩
theorem ok_Clip_codes (T : Txt K mg) : FnOk P w K mg base CX0 1 T.f_Clip_codes T.d_Clip_codes ["self"] (sp_Clip_get T fun _ r _ => r) := by
  refine T.F_Clip_codes.ok sc_Clip_codes (fun vs H Q E h => ?_) (fun cdv A outer s H vs Q E hr h => ?_)
  · obtain ⟨p, dx, c, r, x, rfl, _⟩ := h
    rfl
  · obtain ⟨p, dx, c, r, x, rfl, hp, q⟩ := h
    refine ⟨_,
(pss_one (ps_ret (pe_fld (pv 0) rfl)))
, ?_⟩
    exact ⟨_, rfl, p, T.C_Clip, dx, _, _, rfl, hp, T.cl_Clip, T.na_Clip__codes, rfl, q⟩
theorem ok_Clip_state (T : Txt K mg) : FnOk P w K mg base CX0 1 T.f_Clip_state T.d_Clip_state ["self"] (sp_Clip_get T fun _ _ x => x) := by
  refine T.F_Clip_state.ok sc_Clip_state (fun vs H Q E h => ?_) (fun cdv A outer s H vs Q E hr h => ?_)
  · obtain ⟨p, dx, c, r, x, rfl, _⟩ := h
    rfl
  · obtain ⟨p, dx, c, r, x, rfl, hp, q⟩ := h
    refine ⟨_,
(pss_one (ps_ret (pe_fld (pv 0) rfl)))
, ?_⟩
    exact ⟨_, rfl, p, T.C_Clip, dx, _, _, rfl, hp, T.cl_Clip, T.na_Clip__state, rfl, q⟩
def sp_Clip_heard (T : Txt K mg) : Sp := fun vs H Q _ => ∃ (p : Addr) (C : Cod) (row : List Nat) (s : Int × Int), vs = [.ref p] ∧ ClS T H p C row s ∧ ∀ t H1, Same H H1 → SqT K H1 t ((C.lev s row).map V.int) → Q (.ref t) H1
theorem ok_Clip_heard (T : Txt K mg) : FnOk P w K mg base CX0 6 T.f_Clip_heard T.d_Clip_heard ["self"] (sp_Clip_heard T) := by
  refine T.F_Clip_heard.ok sc_Clip_heard (fun vs H Q E h => ?_) (fun cdv A outer s H vs Q E hr h => ?_)
  · obtain ⟨p, C, row, s, rfl, _⟩ := h
    rfl
  · obtain ⟨p, C, row, st, rfl, hS, q⟩ := h
    obtain ⟨dx, c, r, x, hp, hc, hrow, hx⟩ := hS.ex
    refine ⟨_,
(pss_one (ps_ret (pe_callTy call_tuple_of (by rfl) T.z_tuple (by decide +kernel) (pa_cons (pe_call (ok_samples_along T) (hr.mono (by decide)) (by rfl) T.g_samples_along T.F_samples_along.kp T.b_samples_along .nil pass0 (pa_cons (pe_fld (pv 0) rfl) (pa_cons (pe_fld (pv 0) rfl) (pa_cons (pe_fld (pv 0) rfl) pa_nil)))) pa_nil))))
, ?_⟩
    refine ⟨_, rfl, p, T.C_Clip, dx, _, _, rfl, hp, T.cl_Clip, T.na_Clip__coder, rfl, _, rfl, p, T.C_Clip, dx, _, _, rfl, hp, T.cl_Clip, T.na_Clip__codes, rfl, _, rfl, p, T.C_Clip, dx, _, _, rfl, hp, T.cl_Clip, T.na_Clip__state, rfl, c, r, x, C, row, st, rfl, hS.O, hc, hrow, hS.R, hx, hS.St, fun l H1 s1 hl hL => ?_⟩
    refine ⟨l, _, rfl, .inl ⟨SqL.of hL, fun t ht => ?_⟩⟩
    exact q t _ (s1.trans (same_new ht)) upd_tup
def sp_Clip_last (T : Txt K mg) : Sp := fun vs H Q _ => ∃ (p : Addr) (C : Cod) (row : List Nat) (s : Int × Int), vs = [.ref p] ∧ ClS T H p C row s ∧ ∀ z H1, Same H H1 → Dp K H1 z (pairI (C.run s row)) → Q z H1
theorem ok_Clip_last (T : Txt K mg) : FnOk P w K mg base CX0 6 T.f_Clip_last T.d_Clip_last ["self"] (sp_Clip_last T) := by
  refine T.F_Clip_last.ok sc_Clip_last (fun vs H Q E h => ?_) (fun cdv A outer s H vs Q E hr h => ?_)
  · obtain ⟨p, C, row, s, rfl, _⟩ := h
    rfl
  · obtain ⟨p, C, row, st, rfl, hS, q⟩ := h
    obtain ⟨dx, c, r, x, hp, hc, hrow, hx⟩ := hS.ex
    refine ⟨_,
(pss_one (ps_ret (pe_call (ok_state_behind_row T) (hr.mono (by decide)) (by rfl) T.g_state_behind_row T.F_state_behind_row.kp T.b_state_behind_row .nil pass0 (pa_cons (pe_fld (pv 0) rfl) (pa_cons (pe_fld (pv 0) rfl) (pa_cons (pe_fld (pv 0) rfl) pa_nil))))))
, ?_⟩
    refine ⟨_, rfl, p, T.C_Clip, dx, _, _, rfl, hp, T.cl_Clip, T.na_Clip__coder, rfl, _, rfl, p, T.C_Clip, dx, _, _, rfl, hp, T.cl_Clip, T.na_Clip__codes, rfl, _, rfl, p, T.C_Clip, dx, _, _, rfl, hp, T.cl_Clip, T.na_Clip__state, rfl, c, r, x, C, row, st, rfl, hS.O, hc, hrow, hS.R.lt, hx, hS.St, fun z H1 s1 hz => q z H1 s1 hz⟩
def sp_Clip_len (T : Txt K mg) : Sp := fun vs H Q _ => ∃ (p : Addr) (C : Cod) (row : List Nat) (s : Int × Int), vs = [.ref p] ∧ ClS T H p C row s ∧ Q (.int (row.length : Nat)) H
theorem ok_Clip_len (T : Txt K mg) : FnOk P w K mg base CX0 1 T.f_Clip_len T.d_Clip_len ["self"] (sp_Clip_len T) := by
  refine T.F_Clip_len.ok sc_Clip_len (fun vs H Q E h => ?_) (fun cdv A outer s H vs Q E hr h => ?_)
  · obtain ⟨p, C, row, s, rfl, _⟩ := h
    rfl
  · obtain ⟨p, C, row, st, rfl, hS, q⟩ := h
    obtain ⟨dx, c, r, x, hp, hc, hrow, hx⟩ := hS.ex
    obtain ⟨ra, rfl, hra⟩ := row_at hrow
    refine ⟨_,
(pss_one (ps_ret (pe_callB (call_len_seq) (by rfl) T.z_len (by decide +kernel) (pa_cons (pe_fld (pv 0) rfl) pa_nil))))
, ?_⟩
    refine ⟨_, rfl, p, T.C_Clip, dx, _, _, rfl, hp, T.cl_Clip, T.na_Clip__codes, rfl, ra, _, rfl, .inr hra, ?_⟩
    rw [show (rowV row).length = row.length from List.length_map ..]
    exact q
theorem clip_mk {T : Txt K mg} {H : Hp} {y dy : Addr} {c r x : V} {C : Cod} {row : List Nat} {s : Int × Int} {Q : VK} {E : XK} (hy : H y = none) (hdy : H dy = none) (O : C.Ok) (hc : Dp K H c C.dat) (hr : Dp K H r (rowI row)) (R : C.Row row) (hx : Dp K H x (pairI s)) (hs : C.St s)
    (q : ∀ H1, Same H H1 → ClS T H1 y C row s → Q .non H1) : sp_Clip_init T [.ref y, c, r, x] (upd (upd H dy (.own y)) y (.ins T.C_Clip dy [])) Q E := by
  have sy : Same H (upd (upd H dy (.own y)) y (.ins T.C_Clip dy [])) := same_put2 (same_new hdy) hy
  refine ⟨y, dy, c, r, x, rfl, upd_same, C.dat, some (row.map fun k : Nat => PyData.int (k : Int)), pairI s, dp_same sy _ _ hc, dp_same sy _ _ hr, dp_same sy _ _ hx, fun y z h => fltV_cod O h, fun C' O' e => ?_⟩
  obtain rfl := dat_inj e
  refine ⟨fun i j e => (by rw [rowRes_row' R] at e; cases e), fun row' e _ => ?_⟩
  obtain rfl := row_inj (Option.some.inj e)
  refine ⟨fun e => (by rw [hs.ok] at e; cases e), fun st' e _ H1 s1 => ?_⟩
  obtain rfl := pairI_inj e
  have sF := same_put2 (o := clO T dy c r x) (sy.trans s1) hy
  exact q _ sF ⟨⟨dy, c, r, x, upd_same, dp_same sF _ _ hc, dp_same sF _ _ hr, dp_same sF _ _ hx⟩, O, R, hs⟩
def sp_Clip_copy (T : Txt K mg) : Sp := fun vs H Q _ => ∃ (p : Addr) (C : Cod) (row : List Nat) (s : Int × Int), vs = [.ref p] ∧ ClS T H p C row s ∧ ∀ y H1, Same H H1 → H y = none → ClS T H1 y C row s → Q (.ref y) H1
theorem ok_Clip_copy (T : Txt K mg) : FnOk P w K mg base CX0 10 T.f_Clip_copy T.d_Clip_copy ["self"] (sp_Clip_copy T) := by
  refine T.F_Clip_copy.ok sc_Clip_copy (fun vs H Q E h => ?_) (fun cdv A outer s H vs Q E hr h => ?_)
  · obtain ⟨p, C, row, s, rfl, _⟩ := h
    rfl
  · obtain ⟨p, C, row, st, rfl, hS, q⟩ := h
    obtain ⟨dx, c, r, x, hp, hc, hrow, hx⟩ := hS.ex
    refine ⟨_,
(pss_one (ps_ret (pe_makeK T.mk_Clip (ok_Clip_init T) (hr.mono (by decide)) (by rfl) T.g_Clip T.k_Clip_init passL (pa_cons (pe_fld (pv 0) rfl) (pa_cons (pe_fld (pv 0) rfl) pa_nil)) (pk_cons (pe_fld (pv 0) rfl) pk_nil))))
, ?_⟩
    refine ⟨_, rfl, p, T.C_Clip, dx, _, _, rfl, hp, T.cl_Clip, T.na_Clip__coder, rfl, _, rfl, p, T.C_Clip, dx, _, _, rfl, hp, T.cl_Clip, T.na_Clip__codes, rfl, _, rfl, p, T.C_Clip, dx, _, _, rfl, hp, T.cl_Clip, T.na_Clip__state, rfl, rfl, rfl, fun mo dm hm' hdm nem => ?_⟩
    exact clip_mk (T := T) (row := row) hm' hdm hS.O hc hrow hS.R hx hS.St fun H12 s12 hmo => ⟨rfl, q mo H12 s12 hm' hmo⟩
def sp_Clip_eq (T : Txt K mg) : Sp := fun vs H Q _ => ∃ (p : Addr) (y : V) (C : Cod) (row : List Nat) (s : Int × Int), vs = [.ref p, y] ∧ ClS T H p C row s ∧
  ((∃ (T' : String), T' ∈ ["NoneType", "bool", "int", "str", "list", "tuple", "dict"] ∧ TyX K H y (.type T') ∧ Q (.bl false) H) ∨
   ∃ (p' : Addr) (C' : Cod) (row' : List Nat) (s' : Int × Int), y = .ref p' ∧ ClS T H p' C' row' s' ∧ ∀ b : Bool, (b = true ↔ C = C' ∧ row = row' ∧ s = s') → Q (.bl b) H)
theorem ok_Clip_eq (T : Txt K mg) : FnOk P w K mg base CX0 2 T.f_Clip_eq T.d_Clip_eq ["self", "other"] (sp_Clip_eq T) := by
  refine T.F_Clip_eq.ok sc_Clip_eq (fun vs H Q E h => ?_) (fun cdv A outer s H vs Q E hr h => ?_)
  · obtain ⟨p, y, C, row, s, rfl, _⟩ := h
    rfl
  · obtain ⟨p, y, C, row, st, rfl, hS, h⟩ := h
    obtain ⟨dx, c, r, x, hp, hc, hrow, hx⟩ := hS.ex
    refine ⟨_,
(pss_cons (ps_if (pt_not (pt_val (pe_callB (call_isi) (by rfl) T.z_isinstance (by decide +kernel) (pa_cons (pv 1) (pa_cons (pe_glob (v := .ref T.C_Clip) (by rfl) T.g_Clip rfl) pa_nil))))) (pss_one (ps_ret pe_bl)) pss_nil)
      (pss_one (ps_ret (pe_and (pe_cmpR (op_eqD hr.units) (pe_fld (pv 0) rfl) (pe_fld (pv 1) rfl) (nomark _)) (pe_and (pe_cmpR (op_eqD hr.units) (pe_fld (pv 0) rfl) (pe_fld (pv 1) rfl) (nomark _)) (pe_one (pe_cmpR (op_eqD hr.units) (pe_fld (pv 0) rfl) (pe_fld (pv 1) rfl) (nomark _))))))))
, ?_⟩
    rcases h with ⟨T', hT', ty, q⟩ | ⟨p', C', row', st', rfl, hS', q⟩
    · refine ⟨_, rfl, _, .ref T.C_Clip, _, _, _, rfl, .own _, ty, T.is_Clip.no T' hT', _, rfl, ?_⟩
      refine iteT ?_
      exact q
    obtain ⟨dx', c', r', x', hp', hc', hrow', hx'⟩ := hS'.ex
    refine ⟨_, rfl, _, .ref T.C_Clip, _, _, _, rfl, .own _, T.is_Clip.ty T.cl_Clip hp', kit_selfC, _, rfl, ?_⟩
    refine iteF ?_
    refine ⟨_, rfl, p, T.C_Clip, dx, _, _, rfl, hp, T.cl_Clip, T.na_Clip__coder, rfl, _, rfl, p', T.C_Clip, dx', _, _, rfl, hp', T.cl_Clip, T.na_Clip__coder, rfl, C.dat, C'.dat, hc, hc', shaped_cod C, shaped_cod C', _, rfl, ?_⟩
    rw [eqv_codC]
    by_cases e1 : C = C'
    · rw [decide_eq_true e1]
      refine iteT ?_
      refine ⟨_, rfl, p, T.C_Clip, dx, _, _, rfl, hp, T.cl_Clip, T.na_Clip__codes, rfl, _, rfl, p', T.C_Clip, dx', _, _, rfl, hp', T.cl_Clip, T.na_Clip__codes, rfl, rowI row, rowI row', hrow, hrow', shaped_rowC row, shaped_rowC row', _, rfl, ?_⟩
      rw [eqv_rowC]
      by_cases e2 : row = row'
      · rw [decide_eq_true e2]
        refine iteT ?_
        refine ⟨_, rfl, p, T.C_Clip, dx, _, _, rfl, hp, T.cl_Clip, T.na_Clip__state, rfl, _, rfl, p', T.C_Clip, dx', _, _, rfl, hp', T.cl_Clip, T.na_Clip__state, rfl, pairI st, pairI st', hx, hx', shaped_pairC st, shaped_pairC st', ?_⟩
        rw [eqv_pairC]
        refine q _ ?_
        rw [decide_eq_true_eq]
        exact ⟨fun h => ⟨e1, e2, h⟩, fun h => h.2.2⟩
      · rw [decide_eq_false e2]
        refine iteF ?_
        exact q false ⟨nofun, fun h => absurd h.2.1 e2⟩
    · rw [decide_eq_false e1]
      refine iteF ?_
      exact q false ⟨nofun, fun h => absurd h.1 e1⟩
theorem sl_takeA {H : Hp} {a : Addr} {xs : List V} {n : Nat} {Q : VK} (h : SqT K H a xs) (k : ∀ b H', Same H H' → SqT K H' b (xs.take n) → Q (.ref b) H') : rSlA K (.ref a) none (some (n : Int)) H Q := by
  by_cases hn : n ≤ xs.length
  · exact sl_takeV h hn k
  · have e0 : xs.take n = xs := List.take_of_length_le (by omega)
    refine ⟨a, xs, rfl, h, fun _ => ?_, fun ne p hp => ?_⟩
    · refine k _ H (Same.refl H) ?_
      rw [e0]
      exact h
    · refine absurd ⟨rfl, ?_⟩ ne
      rw [HT.sIx_nat]
      exact Nat.min_eq_right (by omega)
theorem ok_need_few_codes (T : Txt K mg) : FnOk P w K mg base CX0 1 T.f__need_few_codes T.d__need_few_codes ["many"] (fun vs H Q _ => ∃ n : Int, vs = [.int n] ∧ n ≤ 2000 ∧ Q .non H) := by
  refine T.F__need_few_codes.ok sc_need_few_codes (fun vs H Q E h => ?_) (fun cdv A outer s H vs Q E hr h => ?_)
  · obtain ⟨n, rfl, _⟩ := h
    rfl
  · obtain ⟨n, rfl, hn, q⟩ := h
    refine ⟨_,
(pss_one (ps_if (pt_cmpR op_gt (pv 0) (pe_glob (v := .int 2000) (by rfl) T.g_MOST_CODES ⟨_, rfl⟩) (nomark _)) (pss_one ps_never) pss_nil))
, ?_⟩
    refine ⟨_, rfl, _, _, rfl, rfl, _, rfl, ?_⟩
    rw [decide_eq_false (by omega)]
    exact iteF q
def sp_Clip_iadd (T : Txt K mg) : Sp := fun vs H Q _ => ∃ (p dx : Addr) (c r x y : V) (C : Cod) (row more : List Nat), vs = [.ref p, y] ∧ H p = some (clO T dx c r x) ∧ Dp K H c C.dat ∧ Dp K H r (rowI row) ∧ Dp K H y (rowI more) ∧ C.Row more ∧ row.length + more.length ≤ 2000 ∧
  ∀ r' H1, Same H H1 → Dp K H1 r' (rowI (row ++ more)) → Q (.ref p) (upd H1 p (clO T dx c r' x))
theorem ok_Clip_iadd (T : Txt K mg) : FnOk P w K mg base (L2.CX P w) 6 T.f_Clip_iadd T.d_Clip_iadd ["self", "other"] (sp_Clip_iadd T) := by
  refine T.F_Clip_iadd.okX sc_Clip_iadd (fun vs H Q E h => ?_) (fun cdv A outer s H vs Q E hr h => ?_)
  · obtain ⟨p, dx, c, r, x, y, C, row, more, rfl, _⟩ := h
    rfl
  · obtain ⟨p, dx, c, r, x, y, C, row, more, rfl, hp, hc, hrow, hy, R, hl, q⟩ := h
    obtain ⟨ra, rfl, hra⟩ := row_at hrow
    obtain ⟨ya, rfl, hya⟩ := row_at hy
    have l1 : (rowV row).length = row.length := List.length_map ..
    have l2 : (rowV more).length = more.length := List.length_map ..
    refine ⟨_,
(pss_cons (ps_expr (pe_call (ok_need_row T) (hr.mono (by decide)) (by rfl) T.g_need_row T.F_need_row.kp T.b_need_row .nil (passes_call (takes_of rfl rfl rfl rfl) (fun _ _ _ _ h => h)) (pa_cons (pe_fld (pv 0) rfl) (pa_cons (pv 1) pa_nil))))
      (pss_cons (ps_expr (pe_call (ok_need_few_codes T) (hr.mono (by decide)) (by rfl) T.g__need_few_codes T.F__need_few_codes.kp T.b__need_few_codes .nil pass0 (pa_cons (pe_op op_add (pe_callB (call_len_seq) (by rfl) T.z_len (by decide +kernel) (pa_cons (pe_fld (pv 0) rfl) pa_nil)) (pe_callB (call_len_seq) (by rfl) T.z_len (by decide +kernel) (pa_cons (pv 1) pa_nil))) pa_nil)))
      (pss_cons (ps_fld (pv 0) (pe_op op_catA (pe_fld (pv 0) rfl) (pv 1)) rfl)
      (pss_one (ps_ret (pv 0))))))
, ?_⟩
    refine ⟨_, rfl, p, T.C_Clip, dx, _, _, rfl, hp, T.cl_Clip, T.na_Clip__coder, rfl, _, rfl, c, .ref ya, C, some (more.map fun k : Nat => PyData.int (k : Int)), rfl, hc, hy, fun _ H1 s1 => ?_, fun i j e => (by rw [rowRes_row' R] at e; cases e)⟩
    refine ⟨_, rfl, p, T.C_Clip, dx, _, _, rfl, s1 _ _ hp, T.cl_Clip, T.na_Clip__codes, rfl, ra, _, rfl, .inr (same_tup s1 hra), _, rfl, ya, _, rfl, .inr (same_tup s1 hya), _, _, rfl, rfl, _, rfl, by rw [l1, l2]; omega, ?_⟩
    refine ⟨_, rfl, p, T.C_Clip, dx, _, _, rfl, s1 _ _ hp, T.cl_Clip, T.na_Clip__codes, rfl, _, rfl, ?_⟩
    refine cat_any (same_tup s1 hra) (same_tup s1 hya) (by rw [l1, l2]; exact sz_line (by omega)) fun z H2 s2 hz => ?_
    have s12 := s1.trans s2
    refine ⟨_, rfl, p, T.C_Clip, dx, _, rfl, s12 _ _ hp, T.cl_Clip, T.na_Clip__codes, by show 3 < 1000; decide, ?_⟩
    refine ⟨_, rfl, ?_⟩
    rw [show rowV row ++ rowV more = rowV (row ++ more) from List.map_append.symm] at hz
    exact q _ H2 s12 (dp_row hz)
end
end My

set_option pp.maxSteps 600
/-! steps and edits -/
namespace My
open PySem PySem.Spec PyProof.Rows L2
inductive Stp where
  | put (i k : Nat)
  | set (i k : Nat)
  | cut (b e : Nat)
  | frm (s : Int × Int)
def Stp.dat : Stp → PyData
  | .put i k => .tuple [.str "put", .int (i : Nat), .int (k : Nat)]
  | .set i k => .tuple [.str "set", .int (i : Nat), .int (k : Nat)]
  | .cut b e => .tuple [.str "cut", .int (b : Nat), .int (e : Nat)]
  | .frm s => .tuple [.str "from", pairI s]
def Stp.Ok (C : Cod) (row : List Nat) : Stp → Prop
  | .put i k => i ≤ row.length ∧ k < C.moves.length
  | .set i k => i < row.length ∧ k < C.moves.length
  | .cut b e => b < e ∧ e ≤ row.length
  | .frm s => C.St s
structure Edt where
  idx : Nat
  old : List Nat
  new : List Nat
  here : Int × Int
  later : Int × Int
def Edt.dat (e : Edt) : PyData := .tuple [.int (e.idx : Nat), rowI e.old, rowI e.new, pairI e.here, pairI e.later]
def Stp.edt (row : List Nat) (st : Int × Int) : Stp → Edt
  | .put i k => ⟨i, [], [k], st, st⟩
  | .set i k => ⟨i, (row.drop i).take 1, [k], st, st⟩
  | .cut b e => ⟨b, (row.drop b).take (e - b), [], st, st⟩
  | .frm s => ⟨0, [], [], st, s⟩
def Edt.app (row : List Nat) (e : Edt) : List Nat := row.take e.idx ++ e.new ++ row.drop (e.idx + e.old.length)
/-- what an edit wants of a row -/
def Edt.Fits (row : List Nat) (e : Edt) : Prop := e.idx + e.old.length ≤ row.length
def Stp.row (row : List Nat) : Stp → List Nat
  | .put i k => row.take i ++ [k] ++ row.drop i
  | .set i k => row.take i ++ [k] ++ row.drop (i + 1)
  | .cut b e => row.take b ++ row.drop e
  | .frm _ => row
def Stp.st (st : Int × Int) : Stp → Int × Int
  | .frm s => s
  | _ => st
theorem edt_fits {C : Cod} {row : List Nat} {st : Int × Int} {s : Stp} (h : s.Ok C row) : (s.edt row st).Fits row := by
  cases s with
  | put i k => exact h.1
  | set i k =>
    have := h.1
    show i + ((row.drop i).take 1).length ≤ row.length
    rw [List.length_take, List.length_drop]
    omega
  | cut b e =>
    obtain ⟨h1, h2⟩ := h
    show b + ((row.drop b).take (e - b)).length ≤ row.length
    rw [List.length_take, List.length_drop]
    omega
  | frm z => exact Nat.zero_le _
theorem edt_app {C : Cod} {row : List Nat} {st : Int × Int} {s : Stp} (h : s.Ok C row) : (s.edt row st).app row = s.row row := by
  cases s with
  | put i k => rfl
  | set i k =>
    have := h.1
    show row.take i ++ [k] ++ row.drop (i + ((row.drop i).take 1).length) = row.take i ++ [k] ++ row.drop (i + 1)
    rw [List.length_take, List.length_drop, show min 1 (row.length - i) = 1 by omega]
  | cut b e =>
    obtain ⟨h1, h2⟩ := h
    show row.take b ++ [] ++ row.drop (b + ((row.drop b).take (e - b)).length) = row.take b ++ row.drop e
    rw [List.length_take, List.length_drop, show b + min (e - b) (row.length - b) = e by omega, List.append_nil]
  | frm z =>
    show [] ++ [] ++ row = row
    rfl
theorem stp_later {row : List Nat} {st : Int × Int} {s : Stp} : (s.edt row st).later = s.st st := by cases s <;> rfl
theorem stp_here {row : List Nat} {st : Int × Int} {s : Stp} : (s.edt row st).here = st := by cases s <;> rfl
theorem stp_St {C : Cod} {row : List Nat} {st : Int × Int} {s : Stp} (h : s.Ok C row) (hs : C.St st) : C.St (s.st st) := by
  cases s with
  | frm z => exact h
  | _ => exact hs
theorem stp_lt {C : Cod} {row : List Nat} {s : Stp} (h : s.Ok C row) (hr : ∀ k ∈ row, k < C.moves.length) : ∀ k ∈ s.row row, k < C.moves.length := by
  intro k hk
  cases s with
  | put i j =>
    rcases List.mem_append.mp hk with hk | hk
    · rcases List.mem_append.mp hk with hk | hk
      · exact hr k (List.mem_of_mem_take hk)
      · rw [List.mem_singleton.mp hk]; exact h.2
    · exact hr k (List.mem_of_mem_drop hk)
  | set i j =>
    rcases List.mem_append.mp hk with hk | hk
    · rcases List.mem_append.mp hk with hk | hk
      · exact hr k (List.mem_of_mem_take hk)
      · rw [List.mem_singleton.mp hk]; exact h.2
    · exact hr k (List.mem_of_mem_drop hk)
  | cut b e =>
    rcases List.mem_append.mp hk with hk | hk
    · exact hr k (List.mem_of_mem_take hk)
    · exact hr k (List.mem_of_mem_drop hk)
  | frm z => exact hr k hk
theorem stp_len {C : Cod} {row : List Nat} {s : Stp} (h : s.Ok C row) : (s.row row).length ≤ row.length + 1 := by
  cases s with
  | put i j => show (row.take i ++ [j] ++ row.drop i).length ≤ _; simp only [List.length_append, List.length_take, List.length_drop, List.length_singleton]; omega
  | set i j => show (row.take i ++ [j] ++ row.drop (i + 1)).length ≤ _; simp only [List.length_append, List.length_take, List.length_drop, List.length_singleton]; omega
  | cut b e => obtain ⟨h1, h2⟩ := h; show (row.take b ++ row.drop e).length ≤ _; simp only [List.length_append, List.length_take, List.length_drop]; omega
  | frm z => exact Nat.le_succ _
/-! how many are alike at the front -/
def cpn (f : Nat → Bool) : Nat → Nat
  | 0 => 0
  | m + 1 => if cpn f m = m ∧ f m = true then m + 1 else cpn f m
structure IsCp (f : Nat → Bool) (m k : Nat) : Prop where
  le : k ≤ m
  al : ∀ j, j < k → f j = true
  st : k = m ∨ f k = false
theorem cpn_is (f : Nat → Bool) : ∀ m, IsCp f m (cpn f m)
  | 0 => ⟨Nat.le_refl _, nofun, .inl rfl⟩
  | m + 1 => by
    have ih := cpn_is f m
    show IsCp f (m + 1) (if cpn f m = m ∧ f m = true then m + 1 else cpn f m)
    by_cases h : cpn f m = m ∧ f m = true
    · rw [if_pos h]
      refine ⟨Nat.le_refl _, fun j hj => ?_, .inl rfl⟩
      rcases Nat.lt_succ_iff_lt_or_eq.mp hj with hj | hj
      · exact ih.al j (by omega)
      · rw [hj]; exact h.2
    · rw [if_neg h]
      refine ⟨Nat.le_succ_of_le ih.le, ih.al, .inr ?_⟩
      rcases ih.st with e | e
      · cases hf : f (cpn f m) with
        | false => rfl
        | true => exact absurd ⟨e, by rw [e] at hf; exact hf⟩ h
      · exact e
theorem IsCp.uniq {f : Nat → Bool} {m k : Nat} (h : IsCp f m k) : cpn f m = k := by
  have g := cpn_is f m
  rcases Nat.lt_trichotomy (cpn f m) k with e | e | e
  · rcases g.st with g' | g'
    · have := h.le; omega
    · rw [h.al _ e] at g'; cases g'
  · exact e
  · rcases h.st with g' | g'
    · have := g.le; omega
    · rw [g.al _ e] at g'; cases g'
def alk (xs ys : List Int) (j : Nat) : Bool := decide (xs[j]? = ys[j]?)
def repF (old new : List Int) : Nat := cpn (alk old new) (min old.length new.length)
def repE (old new : List Int) : Nat := cpn (alk old.reverse new.reverse) (min old.length new.length - repF old new)
def intsD (xs : List Int) : PyData := .tuple (xs.map .int)
def repD (old new : List Int) : PyData :=
  .tuple [.int (repF old new : Nat), intsD ((old.drop (repF old new)).take (old.length - repE old new - repF old new)), intsD ((new.drop (repF old new)).take (new.length - repE old new - repF old new))]
theorem rep_le (old new : List Int) : repF old new + repE old new ≤ old.length ∧ repF old new + repE old new ≤ new.length := by
  have h1 := (cpn_is (alk old new) (min old.length new.length)).le
  have h2 := (cpn_is (alk old.reverse new.reverse) (min old.length new.length - repF old new)).le
  have h1 : repF old new ≤ min old.length new.length := h1
  have h2 : repE old new ≤ min old.length new.length - repF old new := h2
  omega
section
variable {P : Program} {w : World} {K : PySem.W.Frag} {mg : Str → Option Value} {base : Heap}
theorem dp_stp3 {H : Hp} {x : V} {t : Str} {i j : Int} (h : Dp K H x (.tuple [.str t, .int i, .int j])) : ∃ a, x = .ref a ∧ SqT K H a [.str t, .int i, .int j] := by
  obtain ⟨a, xs, rfl, ha, hd⟩ := dp_tup h
  cases hd with
  | cons h1 h => cases h with
    | cons h2 h => cases h with
      | cons h3 h => cases h with
        | nil =>
          cases h1
          cases h2
          cases h3
          exact ⟨a, rfl, ha⟩
theorem dp_stp2 {H : Hp} {x : V} {t : Str} {d : PyData} (h : Dp K H x (.tuple [.str t, d])) : ∃ a v, x = .ref a ∧ SqT K H a [.str t, v] ∧ Dp K H v d := by
  obtain ⟨a, xs, rfl, ha, hd⟩ := dp_tup h
  cases hd with
  | cons h1 h => cases h with
    | cons h2 h => cases h with
      | nil =>
        cases h1
        exact ⟨a, _, rfl, ha, h2⟩
theorem ifW_t {t : Str} {A B : Prop} (q : A) : if decide (V.str t = V.str t) = true then A else B := by
  rw [decide_eq_true rfl, if_pos rfl]
  exact q
theorem ifW_f {t t' : Str} {A B : Prop} (h : decide (t = t') = false) (q : B) : if decide (V.str t = V.str t') = true then A else B := by
  have ne : t ≠ t' := of_decide_eq_false h
  rw [decide_eq_false (fun e => ne (by injection e)), if_neg (by decide)]
  exact q
def belowB (a : PyData) : PyData → Bool | .int e => btw a 0 (e - 1) | _ => false
def canB (C : Cod) (row : List Nat) : List PyData → Bool
  | [.str w, a, b] =>
    if w = "put" then btw a 0 (row.length : Int) && btw b 0 ((C.moves.length : Int) - 1)
    else if w = "set" then btw a 0 ((row.length : Int) - 1) && btw b 0 ((C.moves.length : Int) - 1)
    else if w = "cut" then btw b 1 (row.length : Int) && belowB a b
    else false
  | [.str w, a] => if w = "from" then stateD C a else false
  | _ => false
def inS (w : Str) (n : Nat) : Prop := (w = "put" ∧ n = 3) ∨ (w = "set" ∧ n = 3) ∨ (w = "cut" ∧ n = 3) ∨ (w = "from" ∧ n = 2)
theorem dp_w3 {H : Hp} {x : V} {t : Str} {da db : PyData} (h : Dp K H x (.tuple [.str t, da, db])) : ∃ a va vb, x = .ref a ∧ SqT K H a [.str t, va, vb] ∧ Dp K H va da ∧ Dp K H vb db := by
  obtain ⟨a, xs, rfl, ha, hd⟩ := dp_tup h
  cases hd with
  | cons h1 h => cases h with
    | cons h2 h => cases h with
      | cons h3 h => cases h with
        | nil =>
          cases h1
          exact ⟨a, _, _, rfl, ha, h2, h3⟩
/-- a thing that is no step that can be done -/
def BadT (K : PySem.W.Frag) (H : Hp) (C : Cod) (row : List Nat) (x : V) : Prop := ∃ t, Th K H x t ∧ (∀ ds, t = some ds → canB C row ds = false) ∧ ∀ w r, t = some (.str w :: r) → PyData.strOk w = true
theorem BadT.same {H H' : Hp} {C : Cod} {row : List Nat} {x : V} (h : BadT K H C row x) (s : Same H H') : BadT K H' C row x := by
  obtain ⟨t, h1, h2⟩ := h
  exact ⟨t, h1.same s, h2⟩
def isStr : PyData → Bool | .str _ => true | _ => false
theorem kitStr : ∀ d : PyData, PySem.W.kitOne K (.type (tyN d)) (.type "str") = some (isStr d)
  | .none => kit_ty (a := "NoneType") (b := "str") (r := false) (by decide +kernel)
  | .bool _ => kit_ty (a := "bool") (b := "str") (r := false) (by decide +kernel)
  | .int _ => kit_ty (a := "int") (b := "str") (r := false) (by decide +kernel)
  | .str _ => kit_ty (a := "str") (b := "str") (r := true) (by decide +kernel)
  | .list _ => kit_ty (a := "list") (b := "str") (r := false) (by decide +kernel)
  | .tuple _ => kit_ty (a := "tuple") (b := "str") (r := false) (by decide +kernel)
  | .dict _ => kit_ty (a := "dict") (b := "str") (r := false) (by decide +kernel)
def sp_can (T : Txt K mg) : Sp := fun vs H Q _ => ∃ (c r x : V) (C : Cod) (row : List Nat), vs = [c, r, x] ∧ Dp K H c C.dat ∧ Dp K H r (rowI row) ∧ ((∃ s : Stp, Dp K H x s.dat ∧ s.Ok C row ∧ ∀ H', Same H H' → Q (.bl true) H') ∨
  ∃ (w : Str) (ds : List PyData), Dp K H x (.tuple (.str w :: ds)) ∧ inS w (ds.length + 1) ∧ canB C row (.str w :: ds) = false ∧ ∀ H', Same H H' → Q (.bl false) H')
theorem ok_can_be_done (T : Txt K mg) : FnOk P w K mg base CX0 5 T.f__can_be_done T.d__can_be_done ["coder", "codes", "step"] (sp_can T) := by
  refine T.F__can_be_done.ok sc_can_be_done (fun vs H Q E h => ?_) (fun cdv A outer s H vs Q E hr h => ?_)
  · obtain ⟨c, r, x, C, row, rfl, _⟩ := h
    rfl
  · obtain ⟨c, r, x, C, row, rfl, hc, hrow, h⟩ := h
    obtain ⟨ra, rfl, hra⟩ := row_at hrow
    have l1 : (rowV row).length = row.length := List.length_map ..
    refine ⟨_,
(pss_cons (ps_set (i := 3) sc_can_be_done.nd rfl (Or.inl rfl) (pe_ix ix_tup (pv 2) pe_int (fun _ _ => rfl)))
      (pss_cons (ps_set (i := 4) sc_can_be_done.nd rfl (Or.inl rfl) (pe_callB (call_len_seq) (by rfl) T.z_len (by decide +kernel) (pa_cons (pv 1) pa_nil)))
      (pss_cons (ps_if (pt_cmpR op_eq (pv 3) pe_str (nomark _)) (pss_one (ps_ret (pe_and (pe_call (ok_is_between T) (hr.mono (by decide)) (by rfl) T.g_is_between T.F_is_between.kp T.b_is_between .nil pass0 (pa_cons (pe_ix ix_tup (pv 2) pe_int (fun _ _ => rfl)) (pa_cons pe_int (pa_cons (pv 4) pa_nil)))) (pe_one (pe_call (ok_is_code T) (hr.mono (by decide)) (by rfl) T.g_is_code T.F_is_code.kp T.b_is_code .nil pass0 (pa_cons (pv 0) (pa_cons (pe_ix ix_tup (pv 2) pe_int (fun _ _ => rfl)) pa_nil))))))) pss_nil)
      (pss_cons (ps_if (pt_cmpR op_eq (pv 3) pe_str (nomark _)) (pss_one (ps_ret (pe_and (pe_call (ok_is_between T) (hr.mono (by decide)) (by rfl) T.g_is_between T.F_is_between.kp T.b_is_between .nil pass0 (pa_cons (pe_ix ix_tup (pv 2) pe_int (fun _ _ => rfl)) (pa_cons pe_int (pa_cons (pe_op op_sub (pv 4) pe_int) pa_nil)))) (pe_one (pe_call (ok_is_code T) (hr.mono (by decide)) (by rfl) T.g_is_code T.F_is_code.kp T.b_is_code .nil pass0 (pa_cons (pv 0) (pa_cons (pe_ix ix_tup (pv 2) pe_int (fun _ _ => rfl)) pa_nil))))))) pss_nil)
      (pss_cons (ps_if (pt_cmpR op_eq (pv 3) pe_str (nomark _)) (pss_one (ps_ret (pe_and (pe_call (ok_is_between T) (hr.mono (by decide)) (by rfl) T.g_is_between T.F_is_between.kp T.b_is_between .nil pass0 (pa_cons (pe_ix ix_tup (pv 2) pe_int (fun _ _ => rfl)) (pa_cons pe_int (pa_cons (pv 4) pa_nil)))) (pe_one (pe_call (ok_is_between T) (hr.mono (by decide)) (by rfl) T.g_is_between T.F_is_between.kp T.b_is_between .nil pass0 (pa_cons (pe_ix ix_tup (pv 2) pe_int (fun _ _ => rfl)) (pa_cons pe_int (pa_cons (pe_op op_sub (pe_ix ix_tup (pv 2) pe_int (fun _ _ => rfl)) pe_int) pa_nil)))))))) pss_nil)
      (pss_one (ps_ret (pe_call (ok_is_state T) (hr.mono (by decide)) (by rfl) T.g_is_state T.F_is_state.kp T.b_is_state .nil pass0 (pa_cons (pv 0) (pa_cons (pe_ix ix_tup (pv 2) pe_int (fun _ _ => rfl)) pa_nil))))))))))
, ?_⟩
    rcases h with ⟨z, hx, ok, q⟩ | h
    · cases z with
      | put i k =>
        obtain ⟨a, rfl, ha⟩ := dp_stp3 hx
        refine ⟨_, rfl, a, _, 0, _, rfl, rfl, ha, atI_nat (j := 0) rfl, _, rfl, ra, _, rfl, .inr hra, _, rfl, rfl, _, rfl, ifW_t ?_⟩
        rw [l1]
        refine ⟨_, rfl, a, _, 1, _, rfl, rfl, ha, atI_nat (j := 1) rfl, _, rfl, _, .int (i : Nat), 0, _, rfl, .int _, fun H1 s1 => ⟨_, rfl, ?_⟩⟩
        rw [btw_in (by omega) (by have := ok.1; omega)]
        refine iteT ?_
        refine ⟨_, rfl, _, rfl, a, _, 2, _, rfl, rfl, same_tup s1 ha, atI_nat (j := 2) rfl, _, _, C, .int (k : Nat), rfl, dp_same s1 _ _ hc, .int _, fun H2 s2 => ?_⟩
        rw [btw_in (by omega) (by have := ok.2; omega)]
        exact q H2 (s1.trans s2)
      | set i k =>
        obtain ⟨a, rfl, ha⟩ := dp_stp3 hx
        refine ⟨_, rfl, a, _, 0, _, rfl, rfl, ha, atI_nat (j := 0) rfl, _, rfl, ra, _, rfl, .inr hra, _, rfl, rfl, _, rfl, ifW_f (by decide +kernel) ?_⟩
        refine ⟨_, rfl, rfl, _, rfl, ifW_t ?_⟩
        rw [l1]
        refine ⟨_, rfl, a, _, 1, _, rfl, rfl, ha, atI_nat (j := 1) rfl, _, rfl, _, _, rfl, rfl, _, .int (i : Nat), 0, _, rfl, .int _, fun H1 s1 => ⟨_, rfl, ?_⟩⟩
        rw [btw_in (by omega) (by have := ok.1; omega)]
        refine iteT ?_
        refine ⟨_, rfl, _, rfl, a, _, 2, _, rfl, rfl, same_tup s1 ha, atI_nat (j := 2) rfl, _, _, C, .int (k : Nat), rfl, dp_same s1 _ _ hc, .int _, fun H2 s2 => ?_⟩
        rw [btw_in (by omega) (by have := ok.2; omega)]
        exact q H2 (s1.trans s2)
      | cut b e =>
        obtain ⟨a, rfl, ha⟩ := dp_stp3 hx
        obtain ⟨ok1, ok2⟩ := ok
        refine ⟨_, rfl, a, _, 0, _, rfl, rfl, ha, atI_nat (j := 0) rfl, _, rfl, ra, _, rfl, .inr hra, _, rfl, rfl, _, rfl, ifW_f (by decide +kernel) ?_⟩
        refine ⟨_, rfl, rfl, _, rfl, ifW_f (by decide +kernel) ?_⟩
        refine ⟨_, rfl, rfl, _, rfl, ifW_t ?_⟩
        rw [l1]
        refine ⟨_, rfl, a, _, 2, _, rfl, rfl, ha, atI_nat (j := 2) rfl, _, rfl, _, .int (e : Nat), 1, _, rfl, .int _, fun H1 s1 => ⟨_, rfl, ?_⟩⟩
        rw [btw_in (by omega) (by omega)]
        refine iteT ?_
        refine ⟨_, rfl, a, _, 1, _, rfl, rfl, same_tup s1 ha, atI_nat (j := 1) rfl, _, rfl, a, _, 2, _, rfl, rfl, same_tup s1 ha, atI_nat (j := 2) rfl, _, _, rfl, rfl, _, .int (b : Nat), 0, _, rfl, .int _, fun H2 s2 => ?_⟩
        rw [btw_in (by omega) (by omega)]
        exact q H2 (s1.trans s2)
      | frm st =>
        obtain ⟨a, v, rfl, ha, hv⟩ := dp_stp2 hx
        refine ⟨_, rfl, a, _, 0, _, rfl, rfl, ha, atI_nat (j := 0) rfl, _, rfl, ra, _, rfl, .inr hra, _, rfl, rfl, _, rfl, ifW_f (by decide +kernel) ?_⟩
        refine ⟨_, rfl, rfl, _, rfl, ifW_f (by decide +kernel) ?_⟩
        refine ⟨_, rfl, rfl, _, rfl, ifW_f (by decide +kernel) ?_⟩
        refine ⟨_, rfl, _, rfl, a, _, 1, _, rfl, rfl, ha, atI_nat (j := 1) rfl, _, _, C, _, rfl, hc, hv, fun H1 s1 => ?_⟩
        have ok : C.St st := ok
        rw [ok.ok]
        exact q H1 s1
    · obtain ⟨w, ds, hx, hin, hcan, q⟩ := h
      rcases hin with ⟨rfl, hn⟩ | ⟨rfl, hn⟩ | ⟨rfl, hn⟩ | ⟨rfl, hn⟩
      · obtain ⟨da, db, rfl⟩ : ∃ da db, ds = [da, db] := by
          match ds, hn with
          | [x, y], _ => exact ⟨x, y, rfl⟩
        obtain ⟨a, va, vb, rfl, ha, hda, hdb⟩ := dp_w3 hx
        have hcan : (btw da 0 (row.length : Int) && btw db 0 ((C.moves.length : Int) - 1)) = false := hcan
        refine ⟨_, rfl, a, _, 0, _, rfl, rfl, ha, atI_nat (j := 0) rfl, _, rfl, ra, _, rfl, .inr hra, _, rfl, rfl, _, rfl, ifW_t ?_⟩
        rw [l1]
        refine ⟨_, rfl, a, _, 1, _, rfl, rfl, ha, atI_nat (j := 1) rfl, _, rfl, va, da, 0, _, rfl, hda, fun H1 s1 => ⟨_, rfl, ?_⟩⟩
        cases h1 : btw da 0 (row.length : Int) with
        | false => exact iteF (q H1 s1)
        | true =>
          rw [h1, Bool.true_and] at hcan
          refine iteT ?_
          refine ⟨_, rfl, _, rfl, a, _, 2, _, rfl, rfl, same_tup s1 ha, atI_nat (j := 2) rfl, _, _, C, db, rfl, dp_same s1 _ _ hc, dp_same s1 _ _ hdb, fun H2 s2 => ?_⟩
          rw [hcan]
          exact q H2 (s1.trans s2)
      · obtain ⟨da, db, rfl⟩ : ∃ da db, ds = [da, db] := by
          match ds, hn with
          | [x, y], _ => exact ⟨x, y, rfl⟩
        obtain ⟨a, va, vb, rfl, ha, hda, hdb⟩ := dp_w3 hx
        have hcan : (btw da 0 ((row.length : Int) - 1) && btw db 0 ((C.moves.length : Int) - 1)) = false := hcan
        refine ⟨_, rfl, a, _, 0, _, rfl, rfl, ha, atI_nat (j := 0) rfl, _, rfl, ra, _, rfl, .inr hra, _, rfl, rfl, _, rfl, ifW_f (by decide +kernel) ?_⟩
        refine ⟨_, rfl, rfl, _, rfl, ifW_t ?_⟩
        rw [l1]
        refine ⟨_, rfl, a, _, 1, _, rfl, rfl, ha, atI_nat (j := 1) rfl, _, rfl, _, _, rfl, rfl, va, da, 0, _, rfl, hda, fun H1 s1 => ⟨_, rfl, ?_⟩⟩
        cases h1 : btw da 0 ((row.length : Int) - 1) with
        | false => exact iteF (q H1 s1)
        | true =>
          rw [h1, Bool.true_and] at hcan
          refine iteT ?_
          refine ⟨_, rfl, _, rfl, a, _, 2, _, rfl, rfl, same_tup s1 ha, atI_nat (j := 2) rfl, _, _, C, db, rfl, dp_same s1 _ _ hc, dp_same s1 _ _ hdb, fun H2 s2 => ?_⟩
          rw [hcan]
          exact q H2 (s1.trans s2)
      · obtain ⟨da, db, rfl⟩ : ∃ da db, ds = [da, db] := by
          match ds, hn with
          | [x, y], _ => exact ⟨x, y, rfl⟩
        obtain ⟨a, va, vb, rfl, ha, hda, hdb⟩ := dp_w3 hx
        have hcan : (btw db 1 (row.length : Int) && belowB da db) = false := hcan
        refine ⟨_, rfl, a, _, 0, _, rfl, rfl, ha, atI_nat (j := 0) rfl, _, rfl, ra, _, rfl, .inr hra, _, rfl, rfl, _, rfl, ifW_f (by decide +kernel) ?_⟩
        refine ⟨_, rfl, rfl, _, rfl, ifW_f (by decide +kernel) ?_⟩
        refine ⟨_, rfl, rfl, _, rfl, ifW_t ?_⟩
        rw [l1]
        refine ⟨_, rfl, a, _, 2, _, rfl, rfl, ha, atI_nat (j := 2) rfl, _, rfl, vb, db, 1, _, rfl, hdb, fun H1 s1 => ⟨_, rfl, ?_⟩⟩
        cases h1 : btw db 1 (row.length : Int) with
        | false => exact iteF (q H1 s1)
        | true =>
          rw [h1, Bool.true_and] at hcan
          obtain ⟨e, rfl⟩ : ∃ e : Int, db = .int e := by
            cases db <;> first | exact ⟨_, rfl⟩ | cases h1
          cases hdb
          have hcan : btw da 0 (e - 1) = false := hcan
          refine iteT ?_
          refine ⟨_, rfl, a, _, 1, _, rfl, rfl, same_tup s1 ha, atI_nat (j := 1) rfl, _, rfl, a, _, 2, _, rfl, rfl, same_tup s1 ha, atI_nat (j := 2) rfl, _, _, rfl, rfl, va, da, 0, _, rfl, dp_same s1 _ _ hda, fun H2 s2 => ?_⟩
          rw [hcan]
          exact q H2 (s1.trans s2)
      · obtain ⟨da, rfl⟩ : ∃ da, ds = [da] := by
          match ds, hn with
          | [x], _ => exact ⟨x, rfl⟩
        obtain ⟨a, v, rfl, ha, hv⟩ := dp_stp2 hx
        have hcan : stateD C da = false := hcan
        refine ⟨_, rfl, a, _, 0, _, rfl, rfl, ha, atI_nat (j := 0) rfl, _, rfl, ra, _, rfl, .inr hra, _, rfl, rfl, _, rfl, ifW_f (by decide +kernel) ?_⟩
        refine ⟨_, rfl, rfl, _, rfl, ifW_f (by decide +kernel) ?_⟩
        refine ⟨_, rfl, rfl, _, rfl, ifW_f (by decide +kernel) ?_⟩
        refine ⟨_, rfl, _, rfl, a, _, 1, _, rfl, rfl, ha, atI_nat (j := 1) rfl, _, _, C, _, rfl, hc, hv, fun H1 s1 => ?_⟩
        rw [hcan]
        exact q H1 s1
theorem stp_head {H : Hp} {x : V} {z : Stp} (h : Dp K H x z.dat) : ∃ (a : Addr) (r : List V) (t : Str) (n : Nat), x = .ref a ∧ SqT K H a (.str t :: r) ∧ (.str t :: r : List V).length = n ∧
    SeqAt.shaped (.tuple [.str t, .int (n : Nat)]) = true ∧ ([.tuple [.str "put", .int 3], .tuple [.str "set", .int 3], .tuple [.str "cut", .int 3], .tuple [.str "from", .int 2]].any fun z => PyData.eqv z (.tuple [.str t, .int (n : Nat)])) = true := by
  cases z with
  | put i k => obtain ⟨a, rfl, ha⟩ := dp_stp3 h; exact ⟨a, _, _, 3, rfl, ha, rfl, by decide +kernel, by decide +kernel⟩
  | set i k => obtain ⟨a, rfl, ha⟩ := dp_stp3 h; exact ⟨a, _, _, 3, rfl, ha, rfl, by decide +kernel, by decide +kernel⟩
  | cut b e => obtain ⟨a, rfl, ha⟩ := dp_stp3 h; exact ⟨a, _, _, 3, rfl, ha, rfl, by decide +kernel, by decide +kernel⟩
  | frm s => obtain ⟨a, v, rfl, ha, _⟩ := dp_stp2 h; exact ⟨a, _, _, 2, rfl, ha, rfl, by decide +kernel, by decide +kernel⟩
theorem stp_tup {z : Stp} : ∃ ds, z.dat = .tuple ds := by cases z <;> exact ⟨_, rfl⟩
theorem lay_w (wd : Str) (n : Int) (h : PyData.strOk wd = true) : SeqAt.shaped (.tuple [.str wd, .int n]) = true := by
  show (((PyData.str wd).canLay0 && ((PyData.int n).canLay0 && true)) && decide _) = true
  rw [show (PyData.str wd).canLay0 = true by simp [PyData.canLay0, h]]
  rfl
theorem inS_of {wd : Str} {n : Nat} (h : ([.tuple [.str "put", .int 3], .tuple [.str "set", .int 3], .tuple [.str "cut", .int 3], .tuple [.str "from", .int 2]].any fun z => PyData.eqv z (.tuple [.str wd, .int (n : Nat)])) = true) : inS wd n := by
  have e : ∀ (t : Str) (k : Int), PyData.eqv (.tuple [.str t, .int k]) (.tuple [.str wd, .int (n : Nat)]) = true → t = wd ∧ k = (n : Int) := fun t k hh => by
    have hh : ((t == wd) && ((k == (n : Int)) && true)) = true := hh
    simp only [Bool.and_true, Bool.and_eq_true, beq_iff_eq] at hh
    exact hh
  simp only [List.any_cons, List.any_nil, Bool.or_false, Bool.or_eq_true] at h
  rcases h with h | h | h | h <;> obtain ⟨h1, h2⟩ := e _ _ h <;> subst h1
  · exact .inl ⟨rfl, by omega⟩
  · exact .inr (.inl ⟨rfl, by omega⟩)
  · exact .inr (.inr (.inl ⟨rfl, by omega⟩))
  · exact .inr (.inr (.inr ⟨rfl, by omega⟩))
def sp_need_step (T : Txt K mg) : Sp := fun vs H Q E => ∃ (c r x : V) (C : Cod) (row : List Nat), vs = [c, r, x] ∧ Dp K H c C.dat ∧ Dp K H r (rowI row) ∧ ((∃ s : Stp, Dp K H x s.dat ∧ s.Ok C row ∧ ∀ H', Same H H' → Q .non H') ∨ (BadT K H C row x ∧ NilE T.C_OutOfPlace H E))
theorem ok_need_step (T : Txt K mg) : FnOk P w K mg base (L2.CX P w) 6 T.f__need_step T.d__need_step ["coder", "codes", "thing"] (sp_need_step T) := by
  refine T.F__need_step.okX sc_need_step (fun vs H Q E h => ?_) (fun cdv A outer s H vs Q E hr h => ?_)
  · obtain ⟨c, r, x, C, row, rfl, _⟩ := h
    rfl
  · obtain ⟨c, r, x, C, row, rfl, hc, hrow, h⟩ := h
    refine ⟨_,
(pss_cons (ps_if (PW.pt (pw_or (pt_not (pt_val (pe_callB (call_isi) (by rfl) T.z_isinstance (by decide +kernel) (pa_cons (pv 2) (pa_cons (pe_bltn (v := .ty "tuple") (by rfl) T.z_tuple (by decide +kernel) rfl) pa_nil))))) (pw_or (pt_cmpR op_eq (pe_callB (call_len_seq) (by rfl) T.z_len (by decide +kernel) (pa_cons (pv 2) pa_nil)) pe_int (nomark _)) (pw_or1 (pt_not (pt_val (pe_callB (call_isi) (by rfl) T.z_isinstance (by decide +kernel) (pa_cons (pe_ix ix_tup (pv 2) pe_int (fun _ _ => rfl)) (pa_cons (pe_bltn (v := .ty "str") (by rfl) T.z_str (by decide +kernel) rfl) pa_nil))))))))) (pss_one (ps_raise rfl (takes_of rfl rfl rfl rfl) (My.pmk0 T.o_OutOfPlace T.i_OutOfPlace T.t_OutOfPlace (oki_OutOfPlace T) (hr.mono (by decide)) T.bi_OutOfPlace T.g_OutOfPlace (pa_cons pe_str pa_nil)))) pss_nil)
      (pss_one (ps_if (PW.pt (pw_or (pt_cmpR (My.op_notInDT (My.units65 hr)) (pe_tup (pa_cons (pe_ix ix_tup (pv 2) pe_int (fun _ _ => rfl)) (pa_cons (pe_callB (call_len_seq) (by rfl) T.z_len (by decide +kernel) (pa_cons (pv 2) pa_nil)) pa_nil))) (pe_glob (v := .ref T.q_STEPS) (by rfl) T.g_STEPS rfl) (by with_unfolding_all rfl)) (pw_or1 (pt_not (pt_val (pe_call (ok_can_be_done T) (hr.mono (by decide)) (by rfl) T.g__can_be_done T.F__can_be_done.kp T.b__can_be_done .nil pass0 (pa_cons (pv 0) (pa_cons (pv 1) (pa_cons (pv 2) pa_nil))))))))) (pss_one (ps_raise rfl (takes_of rfl rfl rfl rfl) (My.pmk0 T.o_OutOfPlace T.i_OutOfPlace T.t_OutOfPlace (oki_OutOfPlace T) (hr.mono (by decide)) T.bi_OutOfPlace T.g_OutOfPlace (pa_cons pe_str pa_nil)))) pss_nil)))
, ?_⟩
    rcases h with ⟨z, hx, ok, q⟩ | h
    · obtain ⟨ds, eds⟩ := stp_tup (z := z)
      have ty : TyX K H x (.type "tuple") := by rw [eds] at hx; exact tyx hx
      obtain ⟨a, r', t, n, rfl, ha, hn, hsh, hin⟩ := stp_head hx
      refine ⟨_, rfl, _, .ty "tuple", _, _, true, rfl, .ty _, ty, kit_ty (a := "tuple") (b := "tuple") (r := true) (by decide +kernel), _, rfl, iteF ?_⟩
      refine ⟨_, rfl, a, _, rfl, .inr ha, rfl, _, rfl, ?_⟩
      rw [hn, decide_eq_false (show ¬ V.int (n : Nat) = V.int 0 from fun e => by injection e with e; rw [List.length_cons] at hn; omega)]
      refine iteF ?_
      refine ⟨_, rfl, a, _, 0, _, rfl, rfl, ha, atI_nat (j := 0) rfl, _, .ty "str", _, _, true, rfl, .ty _, tyx (.str t), kit_ty (a := "str") (b := "str") (r := true) (by decide +kernel), _, rfl, iteF ?_⟩
      refine ⟨_, rfl, a, _, 0, _, rfl, rfl, ha, atI_nat (j := 0) rfl, _, rfl, a, _, rfl, .inr ha, by show 2 ≤ sizeLine; decide, fun p hp => ?_⟩
      rw [hn]
      have sp := same_new (o := .tup [V.str t, V.int (n : Nat)]) hp
      refine ⟨.tuple [.str t, .int (n : Nat)], _, .tup upd_tup (.cons (.str _) (.cons (.int _) .nil)), T.qs_STEPS _, hsh, by decide +kernel, _, rfl, ?_⟩
      rw [hin]
      refine iteF ?_
      refine ⟨_, rfl, _, rfl, _, rfl, c, r, .ref a, C, row, rfl, dp_same sp _ _ hc, dp_same sp _ _ hrow, .inl ⟨z, dp_same sp _ _ hx, ok, fun H1 s1 => ⟨_, rfl, iteF ?_⟩⟩⟩
      exact q H1 (sp.trans s1)
    · obtain ⟨⟨t, ht, hb, hw⟩, q⟩ := h
      cases t with
      | none =>
        obtain ⟨Tn, ty, kit⟩ := ht
        refine ⟨_, rfl, _, .ty "tuple", _, _, false, rfl, .ty _, ty, kit, _, rfl, iteT ?_⟩
        refine ⟨by decide, fun a0 ha0 => ⟨a0, _, rfl, upd_same, rfl, upd_same, ?_⟩⟩
        rw [del_new ha0]
        exact q H (Same.refl H)
      | some ds =>
        have hbd := hb ds rfl
        have ty : TyX K H x (.type "tuple") := tyx ht
        obtain ⟨a, xs, rfl, ha, hd⟩ := dp_tup ht
        have lxs := dpAll_len hd
        refine ⟨_, rfl, _, .ty "tuple", _, _, true, rfl, .ty _, ty, kit_ty (a := "tuple") (b := "tuple") (r := true) (by decide +kernel), _, rfl, iteF ?_⟩
        refine ⟨_, rfl, a, _, rfl, .inr ha, rfl, _, rfl, ?_⟩
        cases hd with
        | nil =>
          rw [decide_eq_true (show V.int (([] : List V).length : Nat) = V.int 0 from rfl)]
          refine iteT ?_
          refine ⟨by decide, fun a0 ha0 => ⟨a0, _, rfl, upd_same, rfl, upd_same, ?_⟩⟩
          rw [del_new ha0]
          exact q H (Same.refl H)
        | @cons v xs d ds h1 hr2 =>
          rw [decide_eq_false (show ¬ V.int ((v :: xs).length : Nat) = V.int 0 from fun e => by injection e with e; rw [List.length_cons] at e; omega)]
          refine iteF ?_
          refine ⟨_, rfl, a, _, 0, _, rfl, rfl, ha, atI_nat (j := 0) rfl, _, .ty "str", _, _, isStr d, rfl, .ty _, tyx h1, kitStr d, _, rfl, ?_⟩
          cases hs : isStr d with
          | false =>
            refine iteT ?_
            refine ⟨by decide, fun a0 ha0 => ⟨a0, _, rfl, upd_same, rfl, upd_same, ?_⟩⟩
            rw [del_new ha0]
            exact q H (Same.refl H)
          | true =>
            refine iteF ?_
            obtain ⟨wd, rfl⟩ : ∃ wd, d = .str wd := by
              cases d <;> first | exact ⟨_, rfl⟩ | cases hs
            cases h1
            refine ⟨_, rfl, a, _, 0, _, rfl, rfl, ha, atI_nat (j := 0) rfl, _, rfl, a, _, rfl, .inr ha, by show 2 ≤ sizeLine; decide, fun p hp => ?_⟩
            have sp := same_new (o := .tup [V.str wd, V.int ((V.str wd :: xs).length : Nat)]) hp
            refine ⟨.tuple [.str wd, .int ((V.str wd :: xs).length : Nat)], _, .tup upd_tup (.cons (.str _) (.cons (.int _) .nil)), T.qs_STEPS _, lay_w wd _ (hw wd _ rfl), by decide +kernel, _, rfl, ?_⟩
            cases hin : ([.tuple [.str "put", .int 3], .tuple [.str "set", .int 3], .tuple [.str "cut", .int 3], .tuple [.str "from", .int 2]].any fun z => PyData.eqv z (.tuple [.str wd, .int ((V.str wd :: xs).length : Nat)])) with
            | false =>
              refine iteT ?_
              refine ⟨by decide, fun a0 ha0 => ⟨a0, _, rfl, upd_same, rfl, upd_same, ?_⟩⟩
              rw [del_new ha0]
              exact q _ sp
            | true =>
              refine iteF ?_
              have hS : inS wd (ds.length + 1) := inS_of (by rw [show ds.length + 1 = (V.str wd :: xs).length from lxs.symm]; exact hin)
              refine ⟨_, rfl, _, rfl, _, rfl, c, r, .ref a, C, row, rfl, dp_same sp _ _ hc, dp_same sp _ _ hrow, .inr ⟨wd, ds, dp_same sp _ _ ht, hS, hbd, fun H1 s1 => ⟨_, rfl, iteT ?_⟩⟩⟩
              refine ⟨by decide, fun a0 ha0 => ⟨a0, _, rfl, upd_same, rfl, upd_same, ?_⟩⟩
              rw [del_new ha0]
              exact q _ (sp.trans s1)
def sp_edit_of (T : Txt K mg) : Sp := fun vs H Q E => ∃ (c r x y : V) (C : Cod) (row : List Nat) (st : Int × Int), vs = [c, r, x, y] ∧ Dp K H c C.dat ∧ Dp K H r (rowI row) ∧ Dp K H x (pairI st) ∧ ((∃ s : Stp, Dp K H y s.dat ∧ s.Ok C row ∧ (s.row row).length ≤ 2000 ∧
  ∀ p H', Same H H' → Dp K H' p (s.edt row st).dat → Q p H') ∨ (BadT K H C row y ∧ NilE T.C_OutOfPlace H E) ∨ ∃ i k : Nat, Dp K H y (Stp.put i k).dat ∧ (Stp.put i k).Ok C row ∧ row.length = 2000 ∧ OneE T.C_TooGreat "most" H E (.int 2000))
set_option maxHeartbeats 1000000 in
theorem ok_edit_of (T : Txt K mg) : FnOk P w K mg base (L2.CX P w) 7 T.f_edit_of T.d_edit_of ["coder", "codes", "state", "step"] (sp_edit_of T) := by
  refine T.F_edit_of.okX sc_edit_of (fun vs H Q E h => ?_) (fun cdv A outer s H vs Q E hr h => ?_)
  · obtain ⟨c, r, x, y, C, row, st, rfl, _⟩ := h
    rfl
  · obtain ⟨c, r, x, y, C, row, st, rfl, hc, hrow, hx, h⟩ := h
    refine ⟨_,
(pss_cons (ps_expr (pe_call (ok_need_step T) (hr.mono (by decide)) (by rfl) T.g__need_step T.F__need_step.kp T.b__need_step .nil (passes_call (takes_of rfl rfl rfl rfl) (fun _ _ _ _ h => h)) (pa_cons (pv 0) (pa_cons (pv 1) (pa_cons (pv 3) pa_nil)))))
      (pss_cons (ps_set (i := 4) sc_edit_of.nd rfl (Or.inl rfl) (pe_ix ix_tup (pv 3) pe_int (fun _ _ => rfl)))
      (pss_cons (ps_if (pt_cmpR op_eq (pv 4) pe_str (nomark _)) (pss_one (ps_ret (pe_tup (pa_cons pe_int (pa_cons (pe_tup pa_nil) (pa_cons (pe_tup pa_nil) (pa_cons (pv 2) (pa_cons (pe_ix ix_tup (pv 3) pe_int (fun _ _ => rfl)) pa_nil)))))))) pss_nil)
      (pss_cons (ps_set (i := 5) sc_edit_of.nd rfl (Or.inl rfl) (pe_ix ix_tup (pv 3) pe_int (fun _ _ => rfl)))
      (pss_cons (ps_if (pt_cmpR op_eq (pv 4) pe_str (nomark _)) (pss_cons (ps_if (pt_cmpR op_eq (pe_callB (call_len_seq) (by rfl) T.z_len (by decide +kernel) (pa_cons (pv 1) pa_nil)) (pe_glob (v := .int 2000) (by rfl) T.g_MOST_CODES ⟨_, rfl⟩) (nomark _)) (pss_one (ps_raise rfl (takes_of rfl rfl rfl rfl) (My.pmk_tg T.o_TooGreat T.i_TooGreat T.t_TooGreat (oki_TooGreat T) (hr.mono (by decide)) T.bi_TooGreat .nil pass0 (by rfl) T.g_TooGreat (pa_cons (pe_glob (v := .int 2000) (by rfl) T.g_MOST_CODES ⟨_, rfl⟩) pa_nil)))) pss_nil)
      (pss_one (ps_ret (pe_tup (pa_cons (pv 5) (pa_cons (pe_tup pa_nil) (pa_cons (pe_tup (pa_cons (pe_ix ix_tup (pv 3) pe_int (fun _ _ => rfl)) pa_nil)) (pa_cons (pv 2) (pa_cons (pv 2) pa_nil))))))))) pss_nil)
      (pss_cons (ps_if (pt_cmpR op_eq (pv 4) pe_str (nomark _)) (pss_one (ps_ret (pe_tup (pa_cons (pv 5) (pa_cons (pe_tup (pa_cons (pe_ix ix_tup (pv 1) (pv 5) (fun _ _ => rfl)) pa_nil)) (pa_cons (pe_tup (pa_cons (pe_ix ix_tup (pv 3) pe_int (fun _ _ => rfl)) pa_nil)) (pa_cons (pv 2) (pa_cons (pv 2) pa_nil)))))))) pss_nil)
      (pss_one (ps_ret (pe_tup (pa_cons (pv 5) (pa_cons (pe_slice sl_tupA (pv 1) (po_some (pv 5)) (po_some (pe_ix ix_tup (pv 3) pe_int (fun _ _ => rfl)))) (pa_cons (pe_tup pa_nil) (pa_cons (pv 2) (pa_cons (pv 2) pa_nil))))))))))))))
, ?_⟩
    rcases h with ⟨z, hy, ok, hl, q⟩ | ⟨hb, q⟩ | ⟨i, k, hy, ok, hl, q⟩
    · refine ⟨_, rfl, _, rfl, _, rfl, c, r, y, C, row, rfl, hc, hrow, .inl ⟨z, hy, ok, fun H0 s0 => ?_⟩⟩
      have hc := dp_same s0 _ _ hc
      have hrow := dp_same s0 _ _ hrow
      have hx := dp_same s0 _ _ hx
      have hy := dp_same s0 _ _ hy
      have q : ∀ p H', Same H0 H' → Dp K H' p (z.edt row st).dat → Q p H' := fun p H' s h => q p H' (s0.trans s) h
      obtain ⟨ra, rfl, hra⟩ := row_at hrow
      have l1 : (rowV row).length = row.length := List.length_map ..
      cases z with
      | put i k =>
        obtain ⟨a, rfl, ha⟩ := dp_stp3 hy
        refine ⟨_, rfl, a, _, 0, _, rfl, rfl, ha, atI_nat (j := 0) rfl, _, rfl, rfl, _, rfl, ifW_f (by decide +kernel) ?_⟩
        refine ⟨_, rfl, a, _, 1, _, rfl, rfl, ha, atI_nat (j := 1) rfl, _, rfl, rfl, _, rfl, ifW_t ?_⟩
        refine ⟨_, rfl, ra, _, rfl, .inr hra, rfl, _, rfl, ?_⟩
        have hl2 : row.length + 1 ≤ 2000 := by
          have : (row.take i ++ [k] ++ row.drop i).length ≤ 2000 := hl
          simp only [List.length_append, List.length_take, List.length_drop, List.length_singleton] at this
          have := ok.1
          omega
        rw [l1, decide_eq_false (show ¬ V.int (row.length : Nat) = V.int 2000 from fun e => by injection e with e; omega)]
        refine iteF ?_
        refine ⟨_, rfl, ?_⟩
        refine ⟨by show 0 ≤ sizeLine; decide, fun t1 h_t1 => ?_⟩
        have s_t1 := same_new (o := .tup []) h_t1
        have t_t1 : SqT K (upd H0 t1 (.tup [])) t1 [] := upd_tup
        generalize upd H0 t1 (.tup []) = H1 at s_t1 t_t1
        clear h_t1
        refine ⟨_, rfl, a, _, 2, _, rfl, rfl, same_tup s_t1 ha, atI_nat (j := 2) rfl, ?_⟩
        refine ⟨by show 1 ≤ sizeLine; decide, fun t2 h_t2 => ?_⟩
        have s_t2 := same_new (o := .tup [V.int (k : Nat)]) h_t2
        have t_t2 : SqT K (upd H1 t2 (.tup [V.int (k : Nat)])) t2 [V.int (k : Nat)] := upd_tup
        generalize upd H1 t2 (.tup [V.int (k : Nat)]) = H2 at s_t2 t_t2
        clear h_t2
        refine ⟨_, rfl, _, rfl, ?_⟩
        refine ⟨by show 5 ≤ sizeLine; decide, fun t3 h_t3 => ?_⟩
        have s_t3 := same_new (o := .tup [V.int (i : Nat), V.ref t1, V.ref t2, x, x]) h_t3
        have t_t3 : SqT K (upd H2 t3 (.tup [V.int (i : Nat), V.ref t1, V.ref t2, x, x])) t3 [V.int (i : Nat), V.ref t1, V.ref t2, x, x] := upd_tup
        generalize upd H2 t3 (.tup [V.int (i : Nat), V.ref t1, V.ref t2, x, x]) = H3 at s_t3 t_t3
        clear h_t3
        have k3 := (s_t1.trans s_t2).trans s_t3
        exact q _ _ k3 (.tup t_t3 (.cons (.int _) (.cons (.tup (same_tup (s_t2.trans s_t3) t_t1) .nil) (.cons (.tup (same_tup s_t3 t_t2) (.cons (.int _) .nil)) (.cons (dp_same k3 _ _ hx) (.cons (dp_same k3 _ _ hx) .nil))))))
      | set i k =>
        obtain ⟨a, rfl, ha⟩ := dp_stp3 hy
        refine ⟨_, rfl, a, _, 0, _, rfl, rfl, ha, atI_nat (j := 0) rfl, _, rfl, rfl, _, rfl, ifW_f (by decide +kernel) ?_⟩
        refine ⟨_, rfl, a, _, 1, _, rfl, rfl, ha, atI_nat (j := 1) rfl, _, rfl, rfl, _, rfl, ifW_f (by decide +kernel) ?_⟩
        refine ⟨_, rfl, rfl, _, rfl, ifW_t ?_⟩
        obtain ⟨g, hg⟩ : ∃ g, row[i]? = some g := ⟨row[i]'ok.1, List.getElem?_eq_getElem ok.1⟩
        have hgV : (rowV row)[i]? = some (V.int (g : Nat)) := by
          unfold rowV
          rw [List.getElem?_map, hg]
          rfl
        have hold : (row.drop i).take 1 = [g] := by
          rw [List.take_one, List.head?_drop, hg]
          rfl
        refine ⟨_, rfl, _, rfl, _, rfl, ra, _, (i : Nat), _, rfl, rfl, hra, atI_nat hgV, ?_⟩
        refine ⟨by show 1 ≤ sizeLine; decide, fun t1 h_t1 => ?_⟩
        have s_t1 := same_new (o := .tup [V.int (g : Nat)]) h_t1
        have t_t1 : SqT K (upd H0 t1 (.tup [V.int (g : Nat)])) t1 [V.int (g : Nat)] := upd_tup
        generalize upd H0 t1 (.tup [V.int (g : Nat)]) = H1 at s_t1 t_t1
        clear h_t1
        refine ⟨_, rfl, a, _, 2, _, rfl, rfl, same_tup s_t1 ha, atI_nat (j := 2) rfl, ?_⟩
        refine ⟨by show 1 ≤ sizeLine; decide, fun t2 h_t2 => ?_⟩
        have s_t2 := same_new (o := .tup [V.int (k : Nat)]) h_t2
        have t_t2 : SqT K (upd H1 t2 (.tup [V.int (k : Nat)])) t2 [V.int (k : Nat)] := upd_tup
        generalize upd H1 t2 (.tup [V.int (k : Nat)]) = H2 at s_t2 t_t2
        clear h_t2
        refine ⟨_, rfl, _, rfl, ?_⟩
        refine ⟨by show 5 ≤ sizeLine; decide, fun t3 h_t3 => ?_⟩
        have s_t3 := same_new (o := .tup [V.int (i : Nat), V.ref t1, V.ref t2, x, x]) h_t3
        have t_t3 : SqT K (upd H2 t3 (.tup [V.int (i : Nat), V.ref t1, V.ref t2, x, x])) t3 [V.int (i : Nat), V.ref t1, V.ref t2, x, x] := upd_tup
        generalize upd H2 t3 (.tup [V.int (i : Nat), V.ref t1, V.ref t2, x, x]) = H3 at s_t3 t_t3
        clear h_t3
        have k3 := (s_t1.trans s_t2).trans s_t3
        refine q _ _ k3 ?_
        show Dp K H3 _ (.tuple [.int (i : Nat), rowI ((row.drop i).take 1), rowI [k], pairI st, pairI st])
        rw [hold]
        exact .tup t_t3 (.cons (.int _) (.cons (.tup (same_tup (s_t2.trans s_t3) t_t1) (.cons (.int _) .nil)) (.cons (.tup (same_tup s_t3 t_t2) (.cons (.int _) .nil)) (.cons (dp_same k3 _ _ hx) (.cons (dp_same k3 _ _ hx) .nil)))))
      | cut b e =>
        obtain ⟨a, rfl, ha⟩ := dp_stp3 hy
        obtain ⟨ok1, ok2⟩ := ok
        refine ⟨_, rfl, a, _, 0, _, rfl, rfl, ha, atI_nat (j := 0) rfl, _, rfl, rfl, _, rfl, ifW_f (by decide +kernel) ?_⟩
        refine ⟨_, rfl, a, _, 1, _, rfl, rfl, ha, atI_nat (j := 1) rfl, _, rfl, rfl, _, rfl, ifW_f (by decide +kernel) ?_⟩
        refine ⟨_, rfl, rfl, _, rfl, ifW_f (by decide +kernel) ?_⟩
        refine ⟨_, rfl, _, rfl, _, rfl, _, rfl, _, rfl, a, _, 2, _, rfl, rfl, ha, atI_nat (j := 2) rfl, _, rfl, ?_⟩
        refine sl_partV (lo := b) (hi := e) hra (by rw [l1]; omega) fun t1 H1 s_t1 t_t1 => ?_
        refine ⟨by show 0 ≤ sizeLine; decide, fun t2 h_t2 => ?_⟩
        have s_t2 := same_new (o := .tup []) h_t2
        have t_t2 : SqT K (upd H1 t2 (.tup [])) t2 [] := upd_tup
        generalize upd H1 t2 (.tup []) = H2 at s_t2 t_t2
        clear h_t2
        refine ⟨_, rfl, _, rfl, ?_⟩
        refine ⟨by show 5 ≤ sizeLine; decide, fun t3 h_t3 => ?_⟩
        have s_t3 := same_new (o := .tup [V.int (b : Nat), V.ref t1, V.ref t2, x, x]) h_t3
        have t_t3 : SqT K (upd H2 t3 (.tup [V.int (b : Nat), V.ref t1, V.ref t2, x, x])) t3 [V.int (b : Nat), V.ref t1, V.ref t2, x, x] := upd_tup
        generalize upd H2 t3 (.tup [V.int (b : Nat), V.ref t1, V.ref t2, x, x]) = H3 at s_t3 t_t3
        clear h_t3
        have k3 := (s_t1.trans s_t2).trans s_t3
        have e1 : ((rowV row).drop b).take (e - b) = rowV ((row.drop b).take (e - b)) := by
          unfold rowV
          rw [List.map_take, List.map_drop]
        rw [e1] at t_t1
        exact q _ _ k3 (.tup t_t3 (.cons (.int _) (.cons (dp_row (same_tup (s_t2.trans s_t3) t_t1)) (.cons (.tup (same_tup s_t3 t_t2) .nil) (.cons (dp_same k3 _ _ hx) (.cons (dp_same k3 _ _ hx) .nil))))))
      | frm z =>
        obtain ⟨a, v, rfl, ha, hv⟩ := dp_stp2 hy
        refine ⟨_, rfl, a, _, 0, _, rfl, rfl, ha, atI_nat (j := 0) rfl, _, rfl, rfl, _, rfl, ifW_t ?_⟩
        refine ⟨by show 0 ≤ sizeLine; decide, fun t1 h_t1 => ?_⟩
        have s_t1 := same_new (o := .tup []) h_t1
        have t_t1 : SqT K (upd H0 t1 (.tup [])) t1 [] := upd_tup
        generalize upd H0 t1 (.tup []) = H1 at s_t1 t_t1
        clear h_t1
        refine ⟨by show 0 ≤ sizeLine; decide, fun t2 h_t2 => ?_⟩
        have s_t2 := same_new (o := .tup []) h_t2
        have t_t2 : SqT K (upd H1 t2 (.tup [])) t2 [] := upd_tup
        generalize upd H1 t2 (.tup []) = H2 at s_t2 t_t2
        clear h_t2
        refine ⟨_, rfl, _, rfl, a, _, 1, _, rfl, rfl, same_tup (s_t1.trans s_t2) ha, atI_nat (j := 1) rfl, ?_⟩
        refine ⟨by show 5 ≤ sizeLine; decide, fun t3 h_t3 => ?_⟩
        have s_t3 := same_new (o := .tup [V.int 0, V.ref t1, V.ref t2, x, v]) h_t3
        have t_t3 : SqT K (upd H2 t3 (.tup [V.int 0, V.ref t1, V.ref t2, x, v])) t3 [V.int 0, V.ref t1, V.ref t2, x, v] := upd_tup
        generalize upd H2 t3 (.tup [V.int 0, V.ref t1, V.ref t2, x, v]) = H3 at s_t3 t_t3
        clear h_t3
        have k3 := (s_t1.trans s_t2).trans s_t3
        exact q _ _ k3 (.tup t_t3 (.cons (.int _) (.cons (.tup (same_tup (s_t2.trans s_t3) t_t1) .nil) (.cons (.tup (same_tup s_t3 t_t2) .nil) (.cons (dp_same k3 _ _ hx) (.cons (dp_same k3 _ _ hv) .nil))))))
    · refine ⟨_, rfl, _, rfl, _, rfl, c, r, y, C, row, rfl, hc, hrow, .inr ⟨hb, q⟩⟩
    · refine ⟨_, rfl, _, rfl, _, rfl, c, r, y, C, row, rfl, hc, hrow, .inl ⟨.put i k, hy, ok, fun H0 s0 => ?_⟩⟩
      have hrow := dp_same s0 _ _ hrow
      have hy := dp_same s0 _ _ hy
      obtain ⟨ra, rfl, hra⟩ := row_at hrow
      have l1 : (rowV row).length = row.length := List.length_map ..
      obtain ⟨a, rfl, ha⟩ := dp_stp3 hy
      refine ⟨_, rfl, a, _, 0, _, rfl, rfl, ha, atI_nat (j := 0) rfl, _, rfl, rfl, _, rfl, ifW_f (by decide +kernel) ?_⟩
      refine ⟨_, rfl, a, _, 1, _, rfl, rfl, ha, atI_nat (j := 1) rfl, _, rfl, rfl, _, rfl, ifW_t ?_⟩
      refine ⟨_, rfl, ra, _, rfl, .inr hra, rfl, _, rfl, ?_⟩
      rw [l1, decide_eq_true (show V.int (row.length : Nat) = V.int 2000 by rw [hl]; rfl)]
      refine iteT ?_
      refine ⟨by decide, fun a ha => ⟨a, .int 2000, rfl, upd_same, fun d hd n => ⟨rfl, d, _, upd_same, (upd_ne n).trans upd_same, (upd_ne n).symm.trans hd, oneE_mk (q.same s0) ha hd n⟩⟩⟩
def sp_edited (T : Txt K mg) : Sp := fun vs H Q _ => ∃ (r x : V) (row : List Nat) (e : Edt), vs = [r, x] ∧ Dp K H r (rowI row) ∧ Dp K H x e.dat ∧ e.Fits row ∧ row.length ≤ 2000 ∧ e.new.length ≤ 2000 ∧ ∀ p H', Same H H' → Dp K H' p (rowI (e.app row)) → Q p H'
theorem ok_edited (T : Txt K mg) : FnOk P w K mg base CX0 1 T.f_edited T.d_edited ["codes", "edit"] (sp_edited T) := by
  refine T.F_edited.ok sc_edited (fun vs H Q E h => ?_) (fun cdv A outer s H vs Q E hr h => ?_)
  · obtain ⟨r, x, row, e, rfl, _⟩ := h
    rfl
  · obtain ⟨r, x, row, e, rfl, hrow, hx, fit, hl, hl2, q⟩ := h
    have fit : e.idx + e.old.length ≤ row.length := fit
    obtain ⟨ra, rfl, hra⟩ := row_at hrow
    have l1 : (rowV row).length = row.length := List.length_map ..
    obtain ⟨a, xs, rfl, ha, hd⟩ := dp_tup hx
    obtain ⟨x1, x2, x3, x4, x5, rfl, h1, h2, h3, h4, h5⟩ := dpAll5 hd
    cases h1
    obtain ⟨oa, rfl, hoa⟩ := row_at h2
    obtain ⟨na, rfl, hna⟩ := row_at h3
    have l2 : (rowV e.old).length = e.old.length := List.length_map ..
    have l3 : (rowV e.new).length = e.new.length := List.length_map ..
    refine ⟨_,
(pss_cons (ps_asg (pe_slice sl_tupA (pv 1) po_none (po_some pe_int)) (pg_tup (by rfl) (pgs_cons (pg_name (i := 2) sc_edited.nd rfl (Or.inl rfl)) (pgs_cons (pg_name (i := 3) sc_edited.nd rfl (Or.inl rfl)) (pgs_cons (pg_name (i := 4) sc_edited.nd rfl (Or.inl rfl)) pgs_nil)))))
      (pss_one (ps_ret (pe_op op_catA (pe_op op_catA (pe_slice sl_tupA (pv 0) po_none (po_some (pv 2))) (pv 4)) (pe_slice sl_tupA (pv 0) (po_some (pe_op op_add (pv 2) (pe_callB (call_len_seq) (by rfl) T.z_len (by decide +kernel) (pa_cons (pv 3) pa_nil)))) po_none)))))
, ?_⟩
    refine ⟨_, rfl, 3, rfl, ?_⟩
    refine sl_takeA (n := 3) ha fun b H1 s1 hb => ?_
    refine ⟨b, _, rfl, hb, rfl, _, _, rfl, _, _, rfl, _, _, rfl, rfl, ?_⟩
    refine ⟨_, rfl, _, rfl, _, rfl, ?_⟩
    refine sl_takeV (n := e.idx) (same_tup s1 hra) (by rw [l1]; omega) fun t1 H2 s2 ht1 => ?_
    refine ⟨_, rfl, ?_⟩
    refine cat_any ht1 (same_tup (s1.trans s2) hna) (sz_line (by rw [List.length_take, l1, l3]; omega)) fun t2 H3 s3 ht2 => ?_
    have s13 := (s1.trans s2).trans s3
    refine ⟨_, rfl, _, rfl, _, rfl, oa, _, rfl, .inr (same_tup s13 hoa), _, _, rfl, rfl, _, rfl, ?_⟩
    rw [l2, show ((e.idx : Nat) : Int) + (e.old.length : Nat) = ((e.idx + e.old.length : Nat) : Int) by omega]
    dsimp only [tNoPart]
    refine sl_dropV (n := e.idx + e.old.length) (same_tup s13 hra) (by rw [l1]; omega) fun t3 H4 s4 ht3 => ?_
    refine cat_any (same_tup s4 ht2) ht3 (sz_line (by simp only [List.length_append, List.length_take, List.length_drop, l1, l3]; omega)) fun t4 H5 s5 ht4 => ?_
    refine q _ _ ((s13.trans s4).trans s5) (dp_row ?_)
    have e1 : (rowV row).take e.idx ++ rowV e.new ++ (rowV row).drop (e.idx + e.old.length) = rowV (e.app row) := by
      unfold rowV Edt.app
      rw [List.map_append, List.map_append, List.map_take, List.map_drop]
    rw [← e1]
    exact ht4
def sp_many (T : Txt K mg) : Sp := fun vs H Q _ => ∃ (a b : Addr) (xs ys : List Int) (m : Nat), vs = [.ref a, .ref b, .int (m : Nat)] ∧ SqT K H a (xs.map V.int) ∧ SqT K H b (ys.map V.int) ∧ m ≤ xs.length ∧ m ≤ ys.length ∧ m ≤ 100000 ∧ Q (.int (cpn (alk xs ys) m : Nat)) H
theorem ok_many_alike (T : Txt K mg) : FnOk P w K mg base CX0 1 T.f__many_alike T.d__many_alike ["one", "other", "most"] (sp_many T) := by
  refine T.F__many_alike.ok sc_many_alike (fun vs H Q E h => ?_) (fun cdv A outer s H vs Q E hr h => ?_)
  · obtain ⟨a, b, xs, ys, m, rfl, _⟩ := h
    rfl
  · obtain ⟨a, b, xs, ys, m, rfl, ha, hb, h1, h2, h3, q⟩ := h
    refine ⟨_,
(pss_cons (ps_for PassesOwn.never rfl (pi_range1 (by rfl) T.z_range (pa_cons (pv 2) pa_nil)) (pg_name (i := 3) sc_many_alike.nd rfl (Or.inl rfl)) (pss_one (ps_if (pt_cmpR op_ne (pe_ix ix_tup (pv 0) (pv 3) (fun _ _ => rfl)) (pe_ix ix_tup (pv 1) (pv 3) (fun _ _ => rfl)) (nomark _)) (pss_one (ps_ret (pv 3))) pss_nil)))
      (pss_one (ps_ret (pv 2))))
, ?_⟩
    refine ⟨_, rfl, _, rfl, by omega, by omega, ?_⟩
    refine for_range (lo := 0) (n := ((m : Nat) : Int).toNat) (fun i σ H' => ∃ x3, σ = [some (.ref a), some (.ref b), some (.int (m : Nat)), x3] ∧ H' = H ∧ ∀ j, j < i → alk xs ys j = true) ⟨none, rfl, rfl, nofun⟩ ?_ ?_
    · rintro i σ H' hi ⟨x3, rfl, rfl, al⟩
      have hi : i < m := by omega
      obtain ⟨g, hg⟩ : ∃ g, xs[i]? = some g := ⟨xs[i]'(by omega), List.getElem?_eq_getElem (by omega)⟩
      obtain ⟨g', hg'⟩ : ∃ g, ys[i]? = some g := ⟨ys[i]'(by omega), List.getElem?_eq_getElem (by omega)⟩
      have e1 : (xs.map V.int)[i]? = some (V.int g) := by rw [List.getElem?_map, hg]; rfl
      have e2 : (ys.map V.int)[i]? = some (V.int g') := by rw [List.getElem?_map, hg']; rfl
      refine ⟨_, rfl, _, rfl, a, _, _, _, rfl, rfl, ha, by rw [Int.zero_add]; exact atI_nat e1, _, rfl, _, rfl, b, _, _, _, rfl, rfl, hb, by rw [Int.zero_add]; exact atI_nat e2, rfl, _, rfl, ?_⟩
      by_cases e : g = g'
      · subst e
        rw [decide_eq_true rfl]
        refine iteF ⟨_, rfl, rfl, fun j hj => ?_⟩
        rcases Nat.lt_succ_iff_lt_or_eq.mp hj with hj | hj
        · exact al j hj
        · rw [hj]; exact decide_eq_true (by rw [hg, hg'])
      · rw [decide_eq_false (show ¬ V.int g = V.int g' from fun z => e (by injection z))]
        refine iteT ⟨_, rfl, ?_⟩
        have hc : IsCp (alk xs ys) m i := ⟨by omega, al, .inr (decide_eq_false (by rw [hg, hg']; exact fun z => e (Option.some.inj z)))⟩
        show Q (.int (0 + (i : Nat))) _
        rw [Int.zero_add, ← hc.uniq]
        exact q
    · rintro σ H' ⟨x3, rfl, rfl, al⟩
      have hc : IsCp (alk xs ys) m m := ⟨Nat.le_refl _, fun j hj => al j (by omega), .inl rfl⟩
      refine ⟨_, rfl, ?_⟩
      rw [← hc.uniq] at q
      have q' := q
      rw [hc.uniq] at q'
      rw [hc.uniq] at q'
      exact q'
def sp_report (T : Txt K mg) : Sp := fun vs H Q _ => ∃ (a b : Addr) (xs ys : List Int), vs = [.ref a, .ref b] ∧ SqT K H a (xs.map V.int) ∧ SqT K H b (ys.map V.int) ∧ xs.length ≤ 100000 ∧ ys.length ≤ 100000 ∧ ∀ p H', Same H H' → Dp K H' p (repD xs ys) → Q p H'
theorem ok_report_of (T : Txt K mg) : FnOk P w K mg base CX0 2 T.f_report_of T.d_report_of ["before", "after"] (sp_report T) := by
  refine T.F_report_of.ok sc_report_of (fun vs H Q E h => ?_) (fun cdv A outer s H vs Q E hr h => ?_)
  · obtain ⟨a, b, xs, ys, rfl, _⟩ := h
    rfl
  · obtain ⟨a, b, xs, ys, rfl, ha, hb, h1, h2, q⟩ := h
    have lx : (xs.map V.int).length = xs.length := List.length_map ..
    have ly : (ys.map V.int).length = ys.length := List.length_map ..
    obtain ⟨le1, le2⟩ := rep_le xs ys
    refine ⟨_,
(pss_cons (ps_set (i := 2) sc_report_of.nd rfl (Or.inl rfl) (pe_callB (call_min2 rfl) (by rfl) T.z_min (by decide +kernel) (pa_cons (pe_callB (call_len_seq) (by rfl) T.z_len (by decide +kernel) (pa_cons (pv 0) pa_nil)) (pa_cons (pe_callB (call_len_seq) (by rfl) T.z_len (by decide +kernel) (pa_cons (pv 1) pa_nil)) pa_nil))))
      (pss_cons (ps_set (i := 3) sc_report_of.nd rfl (Or.inl rfl) (pe_call (ok_many_alike T) (hr.mono (by decide)) (by rfl) T.g__many_alike T.F__many_alike.kp T.b__many_alike .nil pass0 (pa_cons (pv 0) (pa_cons (pv 1) (pa_cons (pv 2) pa_nil)))))
      (pss_cons (ps_set (i := 4) sc_report_of.nd rfl (Or.inl rfl) (pe_call (ok_many_alike T) (hr.mono (by decide)) (by rfl) T.g__many_alike T.F__many_alike.kp T.b__many_alike .nil pass0 (pa_cons (My.pe_revT (pv 0)) (pa_cons (My.pe_revT (pv 1)) (pa_cons (pe_op op_sub (pv 2) (pv 3)) pa_nil)))))
      (pss_one (ps_ret (pe_tup (pa_cons (pv 3) (pa_cons (pe_slice sl_tupA (pv 0) (po_some (pv 3)) (po_some (pe_op op_sub (pe_callB (call_len_seq) (by rfl) T.z_len (by decide +kernel) (pa_cons (pv 0) pa_nil)) (pv 4)))) (pa_cons (pe_slice sl_tupA (pv 1) (po_some (pv 3)) (po_some (pe_op op_sub (pe_callB (call_len_seq) (by rfl) T.z_len (by decide +kernel) (pa_cons (pv 1) pa_nil)) (pv 4)))) pa_nil)))))))))
, ?_⟩
    refine ⟨_, rfl, a, _, rfl, .inr ha, _, rfl, b, _, rfl, .inr hb, _, _, rfl, ?_⟩
    rw [lx, ly, show (if ((ys.length : Nat) : Int) < (xs.length : Nat) then ((ys.length : Nat) : Int) else (xs.length : Nat)) = ((min xs.length ys.length : Nat) : Int) by split <;> omega]
    refine ⟨_, rfl, _, rfl, _, rfl, a, b, xs, ys, min xs.length ys.length, rfl, ha, hb, Nat.min_le_left _ _, Nat.min_le_right _ _, by omega, ?_⟩
    show gName 3 (V.int (repF xs ys : Nat)) _ _ _
    refine ⟨_, rfl, a, _, rfl, ha, fun r1 hr1 => ?_⟩
    have s1 := same_new (o := .tup (xs.map V.int).reverse) hr1
    refine ⟨_, rfl, b, _, rfl, same_tup s1 hb, fun r2 hr2 => ?_⟩
    have s2 := same_new (o := .tup (ys.map V.int).reverse) hr2
    have t1 := same_tup s2 (upd_tup (K := K) (H := H) (p := r1) (xs := (xs.map V.int).reverse))
    have t2 := upd_tup (K := K) (H := upd H r1 (.tup (xs.map V.int).reverse)) (p := r2) (xs := (ys.map V.int).reverse)
    have s12 := s1.trans s2
    generalize upd (upd H r1 (.tup (xs.map V.int).reverse)) r2 (.tup (ys.map V.int).reverse) = H2 at t1 t2 s12
    rw [← List.map_reverse] at t1 t2
    refine ⟨_, rfl, _, rfl, _, _, rfl, rfl, ?_⟩
    have hF : repF xs ys ≤ min xs.length ys.length := (cpn_is _ _).le
    have hsub : ((min xs.length ys.length : Nat) : Int) - (repF xs ys : Nat) = ((min xs.length ys.length - repF xs ys : Nat) : Int) := by omega
    refine ⟨r1, r2, xs.reverse, ys.reverse, min xs.length ys.length - repF xs ys, (by show [V.ref r1, V.ref r2, V.int (((min xs.length ys.length : Nat) : Int) - (repF xs ys : Nat))] = _; rw [hsub]), t1, t2, by rw [List.length_reverse]; omega, by rw [List.length_reverse]; omega, by omega, ?_⟩
    show gName 4 (V.int (repE xs ys : Nat)) _ _ _
    have ha2 := same_tup s12 ha
    have hb2 := same_tup s12 hb
    refine ⟨_, rfl, _, rfl, _, rfl, _, rfl, _, rfl, a, _, rfl, .inr ha2, _, rfl, _, _, rfl, rfl, _, rfl, ?_⟩
    rw [lx, show ((xs.length : Nat) : Int) - (repE xs ys : Nat) = ((xs.length - repE xs ys : Nat) : Int) by omega]
    refine sl_partV (lo := repF xs ys) (hi := xs.length - repE xs ys) ha2 (by rw [lx]; omega) fun u1 H3 s3 hu1 => ?_
    refine ⟨_, rfl, _, rfl, _, rfl, _, rfl, b, _, rfl, .inr (same_tup s3 hb2), _, rfl, _, _, rfl, rfl, _, rfl, ?_⟩
    rw [ly, show ((ys.length : Nat) : Int) - (repE xs ys : Nat) = ((ys.length - repE xs ys : Nat) : Int) by omega]
    refine sl_partV (lo := repF xs ys) (hi := ys.length - repE xs ys) (same_tup s3 hb2) (by rw [ly]; omega) fun u2 H4 s4 hu2 => ?_
    refine ⟨by show 3 ≤ sizeLine; decide, fun u3 h_u3 => ?_⟩
    have s_u3 := same_new (o := .tup [V.int (repF xs ys : Nat), V.ref u1, V.ref u2]) h_u3
    have t_u3 : SqT K (upd H4 u3 (.tup [V.int (repF xs ys : Nat), V.ref u1, V.ref u2])) u3 [V.int (repF xs ys : Nat), V.ref u1, V.ref u2] := upd_tup
    generalize upd H4 u3 (.tup [V.int (repF xs ys : Nat), V.ref u1, V.ref u2]) = H5 at s_u3 t_u3
    clear h_u3
    rw [← List.map_drop, ← List.map_take] at hu1 hu2
    exact q _ _ (((s12.trans s3).trans s4).trans s_u3) (.tup t_u3 (.cons (.int _) (.cons (.tup (same_tup (s4.trans s_u3) hu1) (dp_ints _)) (.cons (.tup (same_tup s_u3 hu2) (dp_ints _)) .nil))))
end
end My

set_option pp.maxSteps 600
/-! desks -/
namespace My
open PySem PySem.Spec PyProof.Rows L2
def seD (x : Stp × Edt) : PyData := .tuple [x.1.dat, x.2.dat]
theorem noL_stp (s : Stp) : noL s.dat = true := by cases s <;> rfl
theorem noL_edt (e : Edt) : noL e.dat = true := by
  show (true && (noL (rowI e.old) && (noL (rowI e.new) && (noL (pairI e.here) && (noL (pairI e.later) && true))))) = true
  rw [noL_row, noL_row]
  rfl
theorem noL_se (x : Stp × Edt) : noL (seD x) = true := by
  show (noL x.1.dat && (noL x.2.dat && true)) = true
  rw [noL_stp, noL_edt]
  rfl
theorem noL_ses (xs : List (Stp × Edt)) : noLs (xs.map seD) = true := noLs_all fun d hd => by
  obtain ⟨x, _, rfl⟩ := List.mem_map.mp hd
  exact noL_se x
/-- all but a desk and its two lists stand -/
structure DkF (p d u : Addr) (H H' : Hp) : Prop where
  st : ∀ b o, H b = some o → b ≠ p → b ≠ d → b ≠ u → H' b = some o
  dm : ∀ b, H' b = none → H b = none
theorem DkF.same {p d u : Addr} {H H' : Hp} (s : Same H H') : DkF p d u H H' := ⟨fun b o h _ _ _ => s b o h, fun _ h => s.free h⟩
theorem DkF.trans {p d u u' : Addr} {H H1 H2 : Hp} (a : DkF p d u H H1) (b : DkF p d u' H1 H2) (hu : u' = u ∨ H u' = none) : DkF p d u H H2 := by
  refine ⟨fun q o h n1 n2 n3 => b.st q o (a.st q o h n1 n2 n3) n1 n2 ?_, fun q h => a.dm q (b.dm q h)⟩
  rcases hu with rfl | hu
  · exact n3
  · exact fun e => by rw [e, hu] at h; cases h
theorem DkF.upd {p d u b : Addr} {H H' : Hp} {o : HO} (a : DkF p d u H H') (hb : b = p ∨ b = d ∨ b = u) : DkF p d u H (L2.upd H' b o) := by
  refine ⟨fun q v h n1 n2 n3 => ?_, fun q h => a.dm q ?_⟩
  · rw [upd_ne (by rcases hb with e | e | e <;> rw [e] <;> assumption)]
    exact a.st q v h n1 n2 n3
  · unfold L2.upd at h
    split at h
    · cases h
    · exact h
section
variable {P : Program} {w : World} {K : PySem.W.Frag} {mg : Str → Option Value} {base : Heap}
def dkO (T : Txt K mg) (dx : Addr) (f r x d u : V) (n : Nat) : HO := .ins T.C_Desk dx [("_first", f), ("_codes", r), ("_state", x), ("_done", d), ("_undone", u), ("_tries", .int (n : Nat))]
/-- what a desk at p has: the clip f, the lists d and u -/
structure DkS (T : Txt K mg) (H : Hp) (p f d u : Addr) (C : Cod) (row0 : List Nat) (st0 : Int × Int) (row : List Nat) (st : Int × Int) (dn un : List (Stp × Edt)) (n : Nat) : Prop where
  ob : ∃ dx r x, H p = some (dkO T dx (.ref f) r x (.ref d) (.ref u) n) ∧ Dp K H r (rowI row) ∧ Dp K H x (pairI st)
  fc : ClS T H f C row0 st0
  dl : ∃ xs, H d = some (.lst xs) ∧ DpAll K H xs (dn.map seD)
  ul : ∃ xs, H u = some (.lst xs) ∧ DpAll K H xs (un.map seD)
  du : d ≠ u
  R : C.Row row
  St : C.St st
theorem DkS.same {T : Txt K mg} {H H' : Hp} {p f d u : Addr} {C : Cod} {row0 row : List Nat} {st0 st : Int × Int} {dn un : List (Stp × Edt)} {n : Nat} (h : DkS T H p f d u C row0 st0 row st dn un n) (s : Same H H') : DkS T H' p f d u C row0 st0 row st dn un n := by
  obtain ⟨dx, r, x, h1, h2, h3⟩ := h.ob
  obtain ⟨xs, d1, d2⟩ := h.dl
  obtain ⟨ys, u1, u2⟩ := h.ul
  exact ⟨⟨dx, r, x, s _ _ h1, dp_same s _ _ h2, dp_same s _ _ h3⟩, h.fc.same s, ⟨xs, s _ _ d1, dpAll_same s _ _ d2⟩, ⟨ys, s _ _ u1, dpAll_same s _ _ u2⟩, h.du, h.R, h.St⟩
theorem ClS.exI {T : Txt K mg} {H : Hp} {p z Cz dz : Addr} {fs : List (Str × V)} {o : HO} {C : Cod} {row : List Nat} {s : Int × Int} (h : ClS T H p C row s) (hz : H z = some (.ins Cz dz fs)) (ne : p ≠ z) : ClS T (upd H z o) p C row s := by
  obtain ⟨dx, c, r, x, h1, h2, h3, h4⟩ := h.ex
  have k := exI_ins (o := o) hz
  exact ⟨⟨dx, c, r, x, (upd_ne ne).trans h1, dp_exI k _ _ h2, dp_exI k _ _ h3, dp_exI k _ _ h4⟩, h.O, h.R, h.St⟩
theorem ClS.lst {T : Txt K mg} {H : Hp} {p z : Addr} {xs : List V} {o : HO} {C : Cod} {row : List Nat} {s : Int × Int} (h : ClS T H p C row s) (hz : H z = some (.lst xs)) : ClS T (upd H z o) p C row s := by
  obtain ⟨dx, c, r, x, h1, h2, h3, h4⟩ := h.ex
  have k := keep_set (o := o) hz
  exact ⟨⟨dx, c, r, x, (upd_ne fun e => by rw [← e, h1] at hz; cases hz).trans h1, dp_keep k _ _ (noL_cod C) h2, dp_keep k _ _ (noL_row row) h3, dp_keep k _ _ (noL_pair s) h4⟩, h.O, h.R, h.St⟩
/-- other fields -/
theorem DkS.put {T : Txt K mg} {H : Hp} {p f d u u' dx : Addr} {C : Cod} {row0 row row' : List Nat} {st0 st st' : Int × Int} {dn un un' : List (Stp × Edt)} {n n' : Nat} {fs : List (Str × V)} {r x : V} (h : DkS T H p f d u C row0 st0 row st dn un n)
    (hp : H p = some (.ins T.C_Desk dx fs)) (ne : T.C_Clip ≠ T.C_Desk) (hr : Dp K H r (rowI row')) (hx : Dp K H x (pairI st')) (hu : ∃ xs, H u' = some (.lst xs) ∧ DpAll K H xs (un'.map seD)) (du : d ≠ u') (R : C.Row row') (S : C.St st') :
    DkS T (upd H p (dkO T dx (.ref f) r x (.ref d) (.ref u') n')) p f d u' C row0 st0 row' st' dn un' n' := by
  have k := exI_ins (o := dkO T dx (.ref f) r x (.ref d) (.ref u') n') hp
  obtain ⟨xs, d1, d2⟩ := h.dl
  obtain ⟨ys, u1, u2⟩ := hu
  have nf : f ≠ p := fun e => by
    obtain ⟨_, _, _, _, h1, _⟩ := h.fc.ex
    rw [e, hp] at h1
    unfold clO at h1
    injection h1 with h1
    injection h1 with h1 _ _
    exact ne h1.symm
  exact ⟨⟨dx, r, x, upd_same, dp_exI k _ _ hr, dp_exI k _ _ hx⟩, h.fc.exI hp nf, ⟨xs, k _ _ d1 nofun nofun, dpAll_exI k _ _ d2⟩, ⟨ys, k _ _ u1 nofun nofun, dpAll_exI k _ _ u2⟩, du, R, S⟩
def sp_Desk_get (T : Txt K mg) (g : V → Nat → V) : Sp := fun vs H Q _ => ∃ (p dx : Addr) (f r x d u : V) (n : Nat), vs = [.ref p] ∧ H p = some (dkO T dx f r x d u n) ∧ Q (g d n) H
theorem ok_Desk_tries (T : Txt K mg) : FnOk P w K mg base CX0 1 T.f_Desk_tries T.d_Desk_tries ["self"] (sp_Desk_get T fun _ n => .int (n : Nat)) := by
  refine T.F_Desk_tries.ok sc_Desk_tries (fun vs H Q E h => ?_) (fun cdv A outer s H vs Q E hr h => ?_)
  · obtain ⟨p, dx, f, r, x, d, u, n, rfl, _⟩ := h
    rfl
  · obtain ⟨p, dx, f, r, x, d, u, n, rfl, hp, q⟩ := h
    refine ⟨_,
(pss_one (ps_ret (pe_fld (pv 0) rfl)))
, ?_⟩
    exact ⟨_, rfl, p, T.C_Desk, dx, _, _, rfl, hp, T.cl_Desk, T.na_Desk__tries, rfl, q⟩
def sp_Desk_len (T : Txt K mg) : Sp := fun vs H Q _ => ∃ (p dx d : Addr) (f r x u : V) (n : Nat) (xs : List V), vs = [.ref p] ∧ H p = some (dkO T dx f r x (.ref d) u n) ∧ H d = some (.lst xs) ∧ Q (.int (xs.length : Nat)) H
theorem ok_Desk_len (T : Txt K mg) : FnOk P w K mg base CX0 1 T.f_Desk_len T.d_Desk_len ["self"] (sp_Desk_len T) := by
  refine T.F_Desk_len.ok sc_Desk_len (fun vs H Q E h => ?_) (fun cdv A outer s H vs Q E hr h => ?_)
  · obtain ⟨p, dx, d, f, r, x, u, n, xs, rfl, _⟩ := h
    rfl
  · obtain ⟨p, dx, d, f, r, x, u, n, xs, rfl, hp, hd, q⟩ := h
    refine ⟨_,
(pss_one (ps_ret (pe_callB (call_len_seq) (by rfl) T.z_len (by decide +kernel) (pa_cons (pe_fld (pv 0) rfl) pa_nil))))
, ?_⟩
    exact ⟨_, rfl, p, T.C_Desk, dx, _, _, rfl, hp, T.cl_Desk, T.na_Desk__done, rfl, d, xs, rfl, .inl (SqL.of hd), q⟩
def sp_Desk_heard (T : Txt K mg) : Sp := fun vs H Q _ => ∃ (p f d u : Addr) (C : Cod) (row0 row : List Nat) (st0 st : Int × Int) (dn un : List (Stp × Edt)) (n : Nat), vs = [.ref p] ∧ DkS T H p f d u C row0 st0 row st dn un n ∧ ∀ t H1, Same H H1 → SqT K H1 t ((C.lev st row).map V.int) → Q (.ref t) H1
theorem ok_Desk_heard (T : Txt K mg) : FnOk P w K mg base CX0 6 T.f_Desk_heard T.d_Desk_heard ["self"] (sp_Desk_heard T) := by
  refine T.F_Desk_heard.ok sc_Desk_heard (fun vs H Q E h => ?_) (fun cdv A outer s H vs Q E hr h => ?_)
  · obtain ⟨p, f, d, u, C, row0, row, st0, st, dn, un, n, rfl, _⟩ := h
    rfl
  · obtain ⟨p, f, d, u, C, row0, row, st0, st, dn, un, n, rfl, hD, q⟩ := h
    obtain ⟨dx, r, x, hp, hrow, hx⟩ := hD.ob
    obtain ⟨dxf, cf, rf, xf, hf, hcf, _, _⟩ := hD.fc.ex
    refine ⟨_,
(pss_one (ps_ret (pe_callTy call_tuple_of (by rfl) T.z_tuple (by decide +kernel) (pa_cons (pe_call (ok_samples_along T) (hr.mono (by decide)) (by rfl) T.g_samples_along T.F_samples_along.kp T.b_samples_along .nil pass0 (pa_cons (pe_prop (pe_fld (pv 0) rfl) T.cl_Clip T.po_Clip_coder (ok_Clip_coder T) (hr.mono (by decide)) T.b_Clip_coder .nil pass0 rfl) (pa_cons (pe_fld (pv 0) rfl) (pa_cons (pe_fld (pv 0) rfl) pa_nil)))) pa_nil))))
, ?_⟩
    refine ⟨_, rfl, p, T.C_Desk, dx, _, _, rfl, hp, T.cl_Desk, T.na_Desk__first, rfl, f, dxf, _, rfl, hf, f, dxf, cf, rf, xf, rfl, hf, _, rfl, p, T.C_Desk, dx, _, _, rfl, hp, T.cl_Desk, T.na_Desk__codes, rfl, _, rfl, p, T.C_Desk, dx, _, _, rfl, hp, T.cl_Desk, T.na_Desk__state, rfl, cf, r, x, C, row, st, rfl, hD.fc.O, hcf, hrow, hD.R, hx, hD.St, fun l H1 s1 _ hL => ?_⟩
    refine ⟨l, _, rfl, .inl ⟨SqL.of hL, fun t ht => ?_⟩⟩
    exact q t _ (s1.trans (same_new ht)) upd_tup
def sp_Desk_clip (T : Txt K mg) : Sp := fun vs H Q _ => ∃ (p f d u : Addr) (C : Cod) (row0 row : List Nat) (st0 st : Int × Int) (dn un : List (Stp × Edt)) (n : Nat), vs = [.ref p] ∧ DkS T H p f d u C row0 st0 row st dn un n ∧ ∀ y H1, Same H H1 → H y = none → ClS T H1 y C row st → Q (.ref y) H1
theorem ok_Desk_clip (T : Txt K mg) : FnOk P w K mg base CX0 10 T.f_Desk_clip T.d_Desk_clip ["self"] (sp_Desk_clip T) := by
  refine T.F_Desk_clip.ok sc_Desk_clip (fun vs H Q E h => ?_) (fun cdv A outer s H vs Q E hr h => ?_)
  · obtain ⟨p, f, d, u, C, row0, row, st0, st, dn, un, n, rfl, _⟩ := h
    rfl
  · obtain ⟨p, f, d, u, C, row0, row, st0, st, dn, un, n, rfl, hD, q⟩ := h
    obtain ⟨dx, r, x, hp, hrow, hx⟩ := hD.ob
    obtain ⟨dxf, cf, rf, xf, hf, hcf, _, _⟩ := hD.fc.ex
    refine ⟨_,
(pss_one (ps_ret (pe_makeK T.mk_Clip (ok_Clip_init T) (hr.mono (by decide)) (by rfl) T.g_Clip T.k_Clip_init passL (pa_cons (pe_prop (pe_fld (pv 0) rfl) T.cl_Clip T.po_Clip_coder (ok_Clip_coder T) (hr.mono (by decide)) T.b_Clip_coder .nil pass0 rfl) (pa_cons (pe_fld (pv 0) rfl) pa_nil)) (pk_cons (pe_fld (pv 0) rfl) pk_nil))))
, ?_⟩
    refine ⟨_, rfl, p, T.C_Desk, dx, _, _, rfl, hp, T.cl_Desk, T.na_Desk__first, rfl, f, dxf, _, rfl, hf, f, dxf, cf, rf, xf, rfl, hf, _, rfl, p, T.C_Desk, dx, _, _, rfl, hp, T.cl_Desk, T.na_Desk__codes, rfl, _, rfl, p, T.C_Desk, dx, _, _, rfl, hp, T.cl_Desk, T.na_Desk__state, rfl, rfl, rfl, fun mo dm hm' hdm nem => ?_⟩
    exact clip_mk (T := T) (row := row) hm' hdm hD.fc.O hcf hrow hD.R hx hD.St fun H12 s12 hmo => ⟨rfl, q mo H12 s12 hm' hmo⟩
end
end My

set_option pp.maxSteps 600
/-! desks: made, steps done -/
namespace My
open PySem PySem.Spec PyProof.Rows L2
/-- each step can be done behind the ones ahead of it -/
def stpsOk (C : Cod) : List Nat → List Stp → Prop
  | _, [] => True
  | row, s :: ss => s.Ok C row ∧ (s.row row).length ≤ 2000 ∧ stpsOk C (s.row row) ss
def endR : List Nat → List Stp → List Nat
  | row, [] => row
  | row, s :: ss => endR (s.row row) ss
def endS : Int × Int → List Stp → Int × Int
  | st, [] => st
  | st, s :: ss => endS (s.st st) ss
def edl : Int × Int → List Nat → List Stp → List (Stp × Edt)
  | _, _, [] => []
  | st, row, s :: ss => (s, s.edt row st) :: edl (s.st st) (s.row row) ss
def rpl (C : Cod) : Int × Int → List Nat → List Stp → List PyData
  | _, _, [] => []
  | st, row, s :: ss => repD (C.lev st row) (C.lev (s.st st) (s.row row)) :: rpl C (s.st st) (s.row row) ss
theorem edl_len (st : Int × Int) (row : List Nat) (ss : List Stp) : (edl st row ss).length = ss.length := by
  induction ss generalizing st row with
  | nil => rfl
  | cons s ss ih => show (edl _ _ ss).length + 1 = ss.length + 1; rw [ih]
theorem edl_fst (st : Int × Int) (row : List Nat) (ss : List Stp) : (edl st row ss).map (·.1) = ss := by
  induction ss generalizing st row with
  | nil => rfl
  | cons s ss ih => show s :: (edl _ _ ss).map (·.1) = s :: ss; rw [ih]
theorem edt_new {row : List Nat} {st : Int × Int} {s : Stp} : (s.edt row st).new.length ≤ 1 := by
  cases s <;> first | exact Nat.le_refl 1 | exact Nat.zero_le _
theorem stps_end {C : Cod} {row : List Nat} {st : Int × Int} : ∀ {ss : List Stp} {row : List Nat} {st : Int × Int}, stpsOk C row ss → C.Row row → C.St st → C.Row (endR row ss) ∧ C.St (endS st ss)
  | [], _, _, _, R, S => ⟨R, S⟩
  | s :: ss, row, st, h, R, S => stps_end (row := row) (st := st) (ss := ss) h.2.2 ⟨h.2.1, stp_lt h.1 R.lt⟩ (stp_St (row := row) h.1 S)
/-- all but p stand -/
structure NP (p : Addr) (H H' : Hp) : Prop where
  st : ∀ b o, H b = some o → b ≠ p → H' b = some o
  dm : ∀ b, H' b = none → H b = none
theorem NP.same {p : Addr} {H H' : Hp} (s : Same H H') : NP p H H' := ⟨fun b o h _ => s b o h, fun _ h => s.free h⟩
theorem NP.trans {p : Addr} {H H1 H2 : Hp} (a : NP p H H1) (b : NP p H1 H2) : NP p H H2 := ⟨fun q o h n => b.st q o (a.st q o h n) n, fun q h => a.dm q (b.dm q h)⟩
theorem NP.put {p : Addr} {H : Hp} {o : HO} : NP p H (upd H p o) := ⟨fun q v h n => (upd_ne n).trans h, fun q h => by
  unfold upd at h
  split at h
  · cases h
  · exact h⟩
theorem NP.new {p q : Addr} {H : Hp} {o : HO} (h : H q = none) : NP p H (upd H q o) := NP.same (same_new h)
theorem NP.exI {p C dx : Addr} {H H' : Hp} {fs : List (Str × V)} (a : NP p H H') (hp : H p = some (.ins C dx fs)) : ExI H H' := fun b o h _ n => a.st b o h fun e => by
  rw [e, hp] at h
  injection h with h
  exact n _ _ _ h.symm
section
variable {P : Program} {w : World} {K : PySem.W.Frag} {mg : Str → Option Value} {base : Heap}
def sp_Desk_init (T : Txt K mg) : Sp := fun vs H Q E => ∃ (p dx : Addr) (y : V), vs = [.ref p, y] ∧ H p = some (.ins T.C_Desk dx []) ∧
  (False ∨
   ∃ (f : Addr) (C : Cod) (row : List Nat) (st : Int × Int), y = .ref f ∧ ClS T H f C row st ∧ T.C_Clip ≠ T.C_Desk ∧ ∀ f' d u H1, (∀ b o, H b = some o → b ≠ p → H1 b = some o) → (∀ b, H1 b = none → H b = none) → H f' = none → H d = none → H u = none → DkS T H1 p f' d u C row st row st [] [] 0 → Q .non H1)
set_option maxHeartbeats 2000000 in
theorem ok_Desk_init (T : Txt K mg) : FnOk P w K mg base 
    CX0
    11 T.f_Desk_init T.d_Desk_init ["self", "clip"] (sp_Desk_init T) := by
  refine T.F_Desk_init.ok sc_Desk_init (fun vs H Q E h => ?_) (fun cdv A outer s H vs Q E hr h => ?_)
  · obtain ⟨p, dx, y, rfl, _⟩ := h
    rfl
  · obtain ⟨p, dx, y, rfl, hp, h⟩ := h
    refine ⟨_,
(pss_cons (ps_if (pt_not (pt_val (pe_callB (call_isi) (by rfl) T.z_isinstance (by decide +kernel) (pa_cons (pv 1) (pa_cons (pe_glob (v := .ref T.C_Clip) (by rfl) T.g_Clip rfl) pa_nil))))) (pss_one ps_never) pss_nil)
      (pss_cons (ps_fld (pv 0) (pe_meth0 (pv 1) T.cl_Clip T.me_Clip_copy (ok_Clip_copy T) (hr.mono (by decide)) T.b_Clip_copy .nil pass0) rfl)
      (pss_cons (ps_fld (pv 0) (pe_prop (pv 1) T.cl_Clip T.po_Clip_codes (ok_Clip_codes T) (hr.mono (by decide)) T.b_Clip_codes .nil pass0 rfl) rfl)
      (pss_cons (ps_fld (pv 0) (pe_prop (pv 1) T.cl_Clip T.po_Clip_state (ok_Clip_state T) (hr.mono (by decide)) T.b_Clip_state .nil pass0 rfl) rfl)
      (pss_cons (ps_fld (pv 0) (pe_lst pa_nil) rfl)
      (pss_cons (ps_fld (pv 0) (pe_lst pa_nil) rfl)
      (pss_one (ps_fld (pv 0) pe_int rfl))))))))
, ?_⟩
    rcases h with h | ⟨f, C, row, st, rfl, hS, ne, q⟩
    · exact h.elim
    obtain ⟨dxf, c0, r0, x0, hf, _⟩ := hS.ex
    refine ⟨_, rfl, _, .ref T.C_Clip, _, _, _, rfl, .own _, T.is_Clip.ty T.cl_Clip hf, kit_selfC, _, rfl, iteF ?_⟩
    refine ⟨_, rfl, f, dxf, _, rfl, hf, rfl, f, C, row, st, rfl, hS, fun f' H1 s1 hf' hS' => ?_⟩
    have hp1 := s1 _ _ hp
    have nfp : f ≠ p := fun e => by
      rw [e, hp] at hf
      unfold clO at hf
      injection hf with hf
      injection hf with hf _ _
      exact ne hf.symm
    have nf'p : f' ≠ p := fun e => by rw [e, hp] at hf'; cases hf'
    have hS1 := hS.same s1
    refine ⟨_, rfl, p, T.C_Desk, dx, _, rfl, hp1, T.cl_Desk, T.na_Desk__first, by decide, ?_⟩
    have N1 : NP p H1 (upd H1 p (.ins T.C_Desk dx (putF "_first" (.ref f') []))) := NP.put
    have p1 : (upd H1 p (.ins T.C_Desk dx (putF "_first" (.ref f') []))) p = some (.ins T.C_Desk dx [("_first", .ref f')]) := upd_same
    generalize upd H1 p (.ins T.C_Desk dx (putF "_first" (.ref f') [])) = M1 at N1 p1
    obtain ⟨dxf, c0, r0, x0, hf, hc0, hr0, hx0⟩ := hS1.ex
    have f1 := N1.st _ _ hf nfp
    refine ⟨_, rfl, f, dxf, _, rfl, f1, f, dxf, c0, r0, x0, rfl, f1, _, rfl, p, T.C_Desk, dx, _, rfl, p1, T.cl_Desk, T.na_Desk__codes, by show 1 < 1000; decide, ?_⟩
    have N2 : NP p H1 (upd M1 p (.ins T.C_Desk dx (putF "_codes" r0 [("_first", .ref f')]))) := N1.trans NP.put
    have p2 : (upd M1 p (.ins T.C_Desk dx (putF "_codes" r0 [("_first", .ref f')]))) p = some (.ins T.C_Desk dx [("_first", .ref f'), ("_codes", r0)]) := upd_same
    generalize upd M1 p (.ins T.C_Desk dx (putF "_codes" r0 [("_first", .ref f')])) = M2 at N2 p2
    have f2 := N2.st _ _ hf nfp
    refine ⟨_, rfl, f, dxf, _, rfl, f2, f, dxf, c0, r0, x0, rfl, f2, _, rfl, p, T.C_Desk, dx, _, rfl, p2, T.cl_Desk, T.na_Desk__state, by show 2 < 1000; decide, ?_⟩
    have N3 : NP p H1 (upd M2 p (.ins T.C_Desk dx (putF "_state" x0 [("_first", .ref f'), ("_codes", r0)]))) := N2.trans NP.put
    have p3 : (upd M2 p (.ins T.C_Desk dx (putF "_state" x0 [("_first", .ref f'), ("_codes", r0)]))) p = some (.ins T.C_Desk dx [("_first", .ref f'), ("_codes", r0), ("_state", x0)]) := upd_same
    generalize upd M2 p (.ins T.C_Desk dx (putF "_state" x0 [("_first", .ref f'), ("_codes", r0)])) = M3 at N3 p3
    refine ⟨by show 0 ≤ sizeLine; decide, fun d hd => ?_⟩
    have N4 := N3.trans (NP.new (o := .lst []) hd)
    have d4 : (upd M3 d (.lst [])) d = some (.lst []) := upd_same
    have p4 := same_new (o := .lst []) hd _ _ p3
    have nd : d ≠ p := fun e => by rw [e, p3] at hd; cases hd
    have hd0 : H d = none := s1.free (N3.dm _ hd)
    generalize upd M3 d (.lst []) = M4 at N4 d4 p4
    refine ⟨_, rfl, p, T.C_Desk, dx, _, rfl, p4, T.cl_Desk, T.na_Desk__done, by show 3 < 1000; decide, ?_⟩
    have N5 : NP p H1 (upd M4 p (.ins T.C_Desk dx (putF "_done" (.ref d) [("_first", .ref f'), ("_codes", r0), ("_state", x0)]))) := N4.trans NP.put
    have p5 : (upd M4 p (.ins T.C_Desk dx (putF "_done" (.ref d) [("_first", .ref f'), ("_codes", r0), ("_state", x0)]))) p = some (.ins T.C_Desk dx [("_first", .ref f'), ("_codes", r0), ("_state", x0), ("_done", .ref d)]) := upd_same
    have d5 : (upd M4 p (.ins T.C_Desk dx (putF "_done" (.ref d) [("_first", .ref f'), ("_codes", r0), ("_state", x0)]))) d = some (.lst []) := (upd_ne nd).trans d4
    generalize upd M4 p (.ins T.C_Desk dx (putF "_done" (.ref d) [("_first", .ref f'), ("_codes", r0), ("_state", x0)])) = M5 at N5 p5 d5
    refine ⟨by show 0 ≤ sizeLine; decide, fun u hu => ?_⟩
    have N6 := N5.trans (NP.new (o := .lst []) hu)
    have u6 : (upd M5 u (.lst [])) u = some (.lst []) := upd_same
    have p6 := same_new (o := .lst []) hu _ _ p5
    have d6 := same_new (o := .lst []) hu _ _ d5
    have nu : u ≠ p := fun e => by rw [e, p5] at hu; cases hu
    have ndu : d ≠ u := fun e => by rw [← e, d5] at hu; cases hu
    have hu0 : H u = none := s1.free (N5.dm _ hu)
    generalize upd M5 u (.lst []) = M6 at N6 u6 p6 d6
    refine ⟨_, rfl, p, T.C_Desk, dx, _, rfl, p6, T.cl_Desk, T.na_Desk__undone, by show 4 < 1000; decide, ?_⟩
    have N7 : NP p H1 (upd M6 p (.ins T.C_Desk dx (putF "_undone" (.ref u) [("_first", .ref f'), ("_codes", r0), ("_state", x0), ("_done", .ref d)]))) := N6.trans NP.put
    have p7 : (upd M6 p (.ins T.C_Desk dx (putF "_undone" (.ref u) [("_first", .ref f'), ("_codes", r0), ("_state", x0), ("_done", .ref d)]))) p = some (.ins T.C_Desk dx [("_first", .ref f'), ("_codes", r0), ("_state", x0), ("_done", .ref d), ("_undone", .ref u)]) := upd_same
    have d7 := (upd_ne (H := M6) (o := .ins T.C_Desk dx (putF "_undone" (.ref u) [("_first", .ref f'), ("_codes", r0), ("_state", x0), ("_done", .ref d)])) nd).trans d6
    have u7 := (upd_ne (H := M6) (o := .ins T.C_Desk dx (putF "_undone" (.ref u) [("_first", .ref f'), ("_codes", r0), ("_state", x0), ("_done", .ref d)])) nu).trans u6
    generalize upd M6 p (.ins T.C_Desk dx (putF "_undone" (.ref u) [("_first", .ref f'), ("_codes", r0), ("_state", x0), ("_done", .ref d)])) = M7 at N7 p7 d7 u7
    refine ⟨_, rfl, p, T.C_Desk, dx, _, rfl, p7, T.cl_Desk, T.na_Desk__tries, by show 5 < 1000; decide, ?_⟩
    have N8 : NP p H1 (upd M7 p (dkO T dx (.ref f') r0 x0 (.ref d) (.ref u) 0)) := N7.trans NP.put
    have k := N8.exI hp1
    refine q f' d u (upd M7 p (dkO T dx (.ref f') r0 x0 (.ref d) (.ref u) 0)) (fun b o h n => N8.st _ _ (s1 _ _ h) n) (fun b h => s1.free (N8.dm _ h)) hf' hd0 hu0 ?_
    obtain ⟨dxg, c1, r1, x1, hg, hc1, hr1, hx1⟩ := hS'.ex
    exact ⟨⟨dx, r0, x0, upd_same, dp_exI k _ _ hr0, dp_exI k _ _ hx0⟩, ⟨⟨dxg, c1, r1, x1, N8.st _ _ hg nf'p, dp_exI k _ _ hc1, dp_exI k _ _ hr1, dp_exI k _ _ hx1⟩, hS.O, hS.R, hS.St⟩,
      ⟨[], (upd_ne nd).trans d7, .nil⟩, ⟨[], (upd_ne nu).trans u7, .nil⟩, ndu, hS.R, hS.St⟩
end
end My

set_option pp.maxSteps 600
/-! steps done on a desk -/
namespace My
open PySem PySem.Spec PyProof.Rows L2
theorem noL_rep (a b : List Int) : noL (repD a b) = true := by
  show (true && (noL (intsD _) && (noL (intsD _) && true))) = true
  rw [show ∀ ns, noL (intsD ns) = true from noL_ints]
  rw [show ∀ ns, noL (intsD ns) = true from noL_ints]
  rfl
theorem noL_rpl (C : Cod) : ∀ (ss : List Stp) (st : Int × Int) (row : List Nat), ∀ d ∈ rpl C st row ss, noL d = true
  | [], _, _, _, h => by cases h
  | s :: ss, st, row, d, h => by
    rcases List.mem_cons.mp h with e | e
    · rw [e]; exact noL_rep _ _
    · exact noL_rpl C ss _ _ d e
theorem endR_cons (row : List Nat) (s : Stp) (ss : List Stp) : endR row (s :: ss) = endR (s.row row) ss := rfl
section
variable {P : Program} {w : World} {K : PySem.W.Frag} {mg : Str → Option Value} {base : Heap}
/-- a step of the loop -/
structure DE (K : PySem.W.Frag) (C : Cod) (HB : Hp) (D R : Addr) (row : List Nat) (st : Int × Int) (ss : List Stp) (i : Nat) (H' : Hp) (rv sv bv : V) (dl : List (Stp × Edt)) (rl : List PyData) (row' : List Nat) (st' : Int × Int) : Prop where
  sm : Same HB H'
  hD : ∃ dvs, H' D = some (.lst dvs) ∧ DpAll K H' dvs (dl.map seD)
  hR : ∃ rvs, H' R = some (.lst rvs) ∧ DpAll K H' rvs rl
  hr : Dp K H' rv (rowI row')
  hs : Dp K H' sv (pairI st')
  hb : ∃ b, bv = .ref b ∧ SqT K H' b ((C.lev st' row').map V.int)
  ed : edl st row ss = dl ++ edl st' row' (ss.drop i)
  rp : rpl C st row ss = rl ++ rpl C st' row' (ss.drop i)
  er : endR row ss = endR row' (ss.drop i)
  es : endS st ss = endS st' (ss.drop i)
  ok : stpsOk C row' (ss.drop i)
  Rw : C.Row row'
  St : C.St st'
  len : dl.length = i
  nl : ∀ d ∈ rl, noL d = true
theorem Th.exI {H H' : Hp} {x : V} {r : Option (List PyData)} (s : ExI H H') (h : Th K H x r) : Th K H' x r := by
  cases r with
  | some ds => exact dp_exI s _ _ h
  | none =>
    obtain ⟨T, h1, h2⟩ := h
    refine ⟨T, ?_, h2⟩
    cases h1 with
    | base h =>
      cases h with
      | non => exact .base .non
      | bl b => exact .base (.bl b)
      | int i => exact .base (.int i)
      | str x => exact .base (.str x)
      | flt x => exact .base (.flt x)
      | lst e => exact .base (.lst (s _ _ e nofun nofun))
      | frz e => exact .base (.frz (s _ _ e nofun nofun))
      | tup e => exact .base (.tup (s _ _ e nofun nofun))
      | dK e => exact .base (.dK (s _ _ e nofun nofun))
      | dT e => exact .base (.dT (s _ _ e nofun nofun))
    | byt b => exact .byt b
    | set e => exact .set (s _ _ e nofun nofun)
    | kList e c => exact .kList e c
    | kTuple e c => exact .kTuple e c
    | kDict e c => exact .kDict e c
    | fTuple e => exact .fTuple (s _ _ e nofun nofun)
    | fDict e => exact .fDict (s _ _ e nofun nofun)
theorem BadT.exI {H H' : Hp} {C : Cod} {row : List Nat} {x : V} (h : BadT K H C row x) (s : ExI H H') : BadT K H' C row x := by
  obtain ⟨t, h1, h2⟩ := h
  exact ⟨t, h1.exI s, h2⟩
def sp_do_each (T : Txt K mg) : Sp := fun vs H Q E => ∃ (p L f d u : Addr) (C : Cod) (row0 row : List Nat) (st0 st : Int × Int) (dn un : List (Stp × Edt)) (n : Nat) (xs ys : List V) (ss : List Stp), vs = [.ref p, .ref L] ∧ DkS T H p f d u C row0 st0 row st dn un n ∧
  SqL K H L (xs ++ ys) ∧ DpAll K H xs (ss.map Stp.dat) ∧ stpsOk C row ss ∧ dn.length + ss.length ≤ 100000 ∧ T.C_Clip ≠ T.C_Desk ∧
  ((ys = [] ∧
  ∀ R reps u' H', DkF p d u H H' → H' R = some (.lst reps) → H R = none → DpAll K H' reps (rpl C st row ss) → (ss = [] → u' = u ∧ Same H H') → (ss ≠ [] → H u' = none) → DkS T H' p f d u' C row0 st0 (endR row ss) (endS st ss) (dn ++ edl st row ss) (if ss = [] then un else []) n → Q (.ref R) H') ∨ ∃ y yr, ys = y :: yr ∧ ((BadT K H C (endR row ss) y ∧ NilE T.C_OutOfPlace H E) ∨ ∃ i k : Nat, Dp K H y (Stp.put i k).dat ∧ (Stp.put i k).Ok C (endR row ss) ∧ (endR row ss).length = 2000 ∧ OneE T.C_TooGreat "most" H E (.int 2000)))
set_option maxHeartbeats 4000000 in
theorem ok_Desk_do_each (T : Txt K mg) : FnOk P w K mg base (L2.CX P w) 12 T.f_Desk_do_each T.d_Desk_do_each ["self", "steps"] (sp_do_each T) := by
  refine T.F_Desk_do_each.okX sc_Desk_do_each (fun vs H Q E h => ?_) (fun cdv A outer s H vs Q E hr h => ?_)
  · obtain ⟨p, L, f, d, u, C, row0, row, st0, st, dn, un, n, xs, ys, ss, rfl, _⟩ := h
    rfl
  · obtain ⟨p, L, f, d, u, C, row0, row, st0, st, dn, un, n, xs, ys, ss, rfl, hD, hL, hxs, oks, hmany, necd, h⟩ := h
    have O := hD.fc.O
    obtain ⟨dx, r, x, hp, hrow, hx⟩ := hD.ob
    obtain ⟨dxf, cf, rf, xf, hf, hcf, _, _⟩ := hD.fc.ex
    refine ⟨_,
(pss_cons (ps_set (i := 2) sc_Desk_do_each.nd rfl (Or.inl rfl) (pe_prop (pe_fld (pv 0) rfl) T.cl_Clip T.po_Clip_coder (ok_Clip_coder T) (hr.mono (by decide)) T.b_Clip_coder .nil pass0 rfl))
      (pss_cons (ps_par (i := 3) (j := 4) (by rfl) sc_Desk_do_each.nd rfl rfl (by decide) rfl rfl (pa_cons (pe_fld (pv 0) rfl) (pa_cons (pe_fld (pv 0) rfl) pa_nil)) (by rfl))
      (pss_cons (ps_set (i := 5) sc_Desk_do_each.nd rfl (Or.inl rfl) (pe_meth0 (pv 0) T.cl_Desk T.me_Desk_heard (ok_Desk_heard T) (hr.mono (by decide)) T.b_Desk_heard .nil pass0))
      (pss_cons (ps_par (i := 6) (j := 7) (by rfl) sc_Desk_do_each.nd rfl rfl (by decide) rfl rfl (pa_cons (pe_lst pa_nil) (pa_cons (pe_lst pa_nil) pa_nil)) (by rfl))
      (pss_cons (ps_for (passes_of rfl) rfl (pi_list (pv 1)) (pg_name (i := 8) sc_Desk_do_each.nd rfl (Or.inl rfl)) (pss_cons (ps_set (i := 9) sc_Desk_do_each.nd rfl (Or.inl rfl) (pe_call (ok_edit_of T) (hr.mono (by decide)) (by rfl) T.g_edit_of T.F_edit_of.kp T.b_edit_of .nil (passes_call (takes_of rfl rfl rfl rfl) (fun _ _ _ _ h => h)) (pa_cons (pv 2) (pa_cons (pv 3) (pa_cons (pv 4) (pa_cons (pv 8) pa_nil))))))
      (pss_cons (ps_par (i := 3) (j := 4) (by rfl) sc_Desk_do_each.nd rfl rfl (by decide) rfl rfl (pa_cons (pe_call (ok_edited T) (hr.mono (by decide)) (by rfl) T.g_edited T.F_edited.kp T.b_edited .nil pass0 (pa_cons (pv 3) (pa_cons (pv 9) pa_nil))) (pa_cons (pe_ix ix_tup (pv 9) pe_int (fun _ _ => rfl)) pa_nil)) (by rfl))
      (pss_cons (ps_set (i := 10) sc_Desk_do_each.nd rfl (Or.inl rfl) (pe_callTy call_tuple_of (by rfl) T.z_tuple (by decide +kernel) (pa_cons (pe_call (ok_samples_along T) (hr.mono (by decide)) (by rfl) T.g_samples_along T.F_samples_along.kp T.b_samples_along .nil pass0 (pa_cons (pv 2) (pa_cons (pv 3) (pa_cons (pv 4) pa_nil)))) pa_nil)))
      (pss_cons (ps_expr (pe_bm PySem.F.plainAttrs_list PySem.F.slot_list_append PySem.F.type_list_append mt_append (pv 6) (pa_cons (pe_tup (pa_cons (pv 8) (pa_cons (pv 9) pa_nil))) pa_nil)))
      (pss_cons (ps_expr (pe_bm PySem.F.plainAttrs_list PySem.F.slot_list_append PySem.F.type_list_append mt_append (pv 7) (pa_cons (pe_call (ok_report_of T) (hr.mono (by decide)) (by rfl) T.g_report_of T.F_report_of.kp T.b_report_of .nil pass0 (pa_cons (pv 5) (pa_cons (pv 10) pa_nil))) pa_nil)))
      (pss_one (ps_set (i := 5) sc_Desk_do_each.nd rfl (Or.inl rfl) (pv 10)))))))))
      (pss_cons (ps_if (pt_truth (pv 6) (fun _ => rfl)) (pss_cons (ps_expr (pe_bm PySem.F.plainAttrs_list PySem.F.slot_list_extend PySem.F.type_list_extend mt_extend (pe_fld (pv 0) rfl) (pa_cons (pv 6) pa_nil)))
      (pss_cons (ps_fld (pv 0) (pe_lst pa_nil) rfl)
      (pss_one (ps_asg (pe_tup (pa_cons (pv 3) (pa_cons (pv 4) pa_nil))) (pg_tup (by rfl) (pgs_cons (My.pg_fld (pv 0)) (pgs_cons (My.pg_fld (pv 0)) pgs_nil))))))) pss_nil)
      (pss_one (ps_ret (pv 7)))))))))
, ?_⟩
    refine ⟨_, rfl, p, T.C_Desk, dx, _, _, rfl, hp, T.cl_Desk, T.na_Desk__first, rfl, f, dxf, _, rfl, hf, f, dxf, cf, rf, xf, rfl, hf, ?_⟩
    refine ⟨_, rfl, p, T.C_Desk, dx, _, _, rfl, hp, T.cl_Desk, T.na_Desk__codes, rfl, _, rfl, p, T.C_Desk, dx, _, _, rfl, hp, T.cl_Desk, T.na_Desk__state, rfl, _, _, rfl, ?_⟩
    refine ⟨_, rfl, p, dx, _, rfl, hp, rfl, p, f, d, u, C, row0, row, st0, st, dn, un, n, rfl, hD, fun b HB sB hb => ?_⟩
    refine ⟨by show 0 ≤ sizeLine; decide, fun D hDn => ⟨by show 0 ≤ sizeLine; decide, fun R hRn => ⟨_, _, rfl, ?_⟩⟩⟩
    have hRB : HB R = none := (same_new hDn).free hRn
    have sD := same_new (o := .lst []) hDn
    have sR := same_new (o := .lst []) hRn
    have neDR : D ≠ R := fun e => by rw [← e, upd_same] at hRn; cases hRn
    have e0 : DE K C HB D R row st ss 0 (upd (upd HB D (.lst [])) R (.lst [])) r x (.ref b) [] [] row st :=
      ⟨sD.trans sR, ⟨[], (upd_ne neDR).trans upd_same, .nil⟩, ⟨[], upd_same, .nil⟩, dp_same ((sB.trans sD).trans sR) _ _ hrow, dp_same ((sB.trans sD).trans sR) _ _ hx, ⟨b, rfl, same_tup (sD.trans sR) hb⟩, rfl, rfl, rfl, rfl, oks, hD.R, hD.St, rfl, nofun⟩
    have hLB := sB.seq hL
    have hxB := dpAll_same sB _ _ hxs
    have hcB := dp_same sB _ _ hcf
    have lx : xs.length = ss.length := by rw [dpAll_len hxs, List.length_map]
    refine ⟨_, rfl, L, rfl, ⟨xs ++ ys, e0.sm.seq hLB⟩, ?_⟩
    refine for_list (K := K) (xs := xs ++ ys) (fun i σ H' => ∃ x8 x9 x10 rv sv bv dl rl row' st', σ = [some (.ref p), some (.ref L), some cf, some rv, some sv, some bv, some (.ref D), some (.ref R), x8, x9, x10] ∧ DE K C HB D R row st ss i H' rv sv bv dl rl row' st' ∧ i ≤ ss.length) ⟨none, none, none, _, _, _, _, _, _, _, rfl, e0, Nat.zero_le _⟩ ?_ ?_ ?_
    · rintro i σ H' _ ⟨x8, x9, x10, rv, sv, bv, dl, rl, row', st', rfl, e, _⟩
      exact e.sm.seq hLB
    · rintro i v σ H' hv ⟨x8, x9, x10, rv, sv, bv, dl, rl, row', st', rfl, e, hle⟩
      by_cases hlt : i < ss.length
      rotate_left
      · have hei : i = ss.length := by omega
        subst hei
        rw [List.getElem?_append_right (by omega), lx, Nat.sub_self] at hv
        have er : endR row ss = row' := by rw [e.er, List.drop_length]; rfl
        rcases h with ⟨hy, _⟩ | ⟨y, yr, rfl, h⟩
        · rw [hy] at hv
          cases hv
        · have hv : some y = some v := hv
          injection hv with hv
          subst hv
          have s0 := sB.trans e.sm
          rw [er] at h
          refine ⟨_, rfl, _, rfl, _, rfl, _, rfl, cf, rv, sv, y, C, row', st', rfl, dp_same e.sm _ _ hcB, e.hr, e.hs, ?_⟩
          rcases h with ⟨hb, q⟩ | ⟨i, k, hp', ok', hl', q⟩
          · exact .inr (.inl ⟨hb.same s0, q.same s0⟩)
          · exact .inr (.inr ⟨i, k, dp_same s0 _ _ hp', ok', hl', q.same s0⟩)
      rw [List.getElem?_append_left (by omega)] at hv
      obtain ⟨dd, hdd, dv⟩ := dpAll_get hxB hv
      rw [List.getElem?_map] at hdd
      obtain ⟨z, hz, rfl⟩ := Option.map_eq_some_iff.mp hdd
      have dv := dp_same e.sm _ _ dv
      have hi : i < ss.length := (List.getElem?_eq_some_iff.mp hz).1
      have hdrop : ss.drop i = z :: ss.drop (i + 1) := by
        rw [List.drop_eq_getElem_cons hi]
        congr 1
        exact (List.getElem?_eq_some_iff.mp hz).2
      obtain ⟨eo, er, ep, ee, es⟩ : stpsOk C row' (z :: ss.drop (i + 1)) ∧ endR row ss = endR row' (z :: ss.drop (i + 1)) ∧ rpl C st row ss = rl ++ rpl C st' row' (z :: ss.drop (i + 1)) ∧ edl st row ss = dl ++ edl st' row' (z :: ss.drop (i + 1)) ∧ endS st ss = endS st' (z :: ss.drop (i + 1)) := by
        rw [← hdrop]
        exact ⟨e.ok, e.er, e.rp, e.ed, e.es⟩
      obtain ⟨ok1, ok2, ok3⟩ := eo
      obtain ⟨b', rfl, hb'⟩ := e.hb
      have hc' := dp_same e.sm _ _ hcB
      have Rw2 : C.Row (z.row row') := ⟨ok2, stp_lt ok1 e.Rw.lt⟩
      have St2 : C.St (z.st st') := stp_St (row := row') ok1 e.St
      refine ⟨_, rfl, _, rfl, _, rfl, _, rfl, cf, rv, sv, v, C, row', st', rfl, hc', e.hr, e.hs, .inl ⟨z, dv, ok1, ok2, fun ev H1 s1 hev => ?_⟩⟩
      have hev0 := hev
      obtain ⟨ea, exs, rfl, hea, hed⟩ := dp_tup hev
      obtain ⟨y1, y2, y3, y4, y5, rfl, _, _, _, _, hy5⟩ := dpAll5 hed
      refine ⟨_, rfl, _, rfl, rv, .ref ea, row', z.edt row' st', rfl, dp_same s1 _ _ e.hr, hev0, edt_fits ok1, e.Rw.len, Nat.le_trans edt_new (by decide), fun rv2 H2 s2 hrv2 => ?_⟩
      rw [edt_app ok1] at hrv2
      rw [stp_later] at hy5
      refine ⟨_, rfl, ea, _, 4, y5, rfl, rfl, same_tup s2 hea, atI_nat (j := 4) rfl, _, _, rfl, ?_⟩
      dsimp only
      refine ⟨_, rfl, _, rfl, _, rfl, cf, rv2, y5, C, z.row row', z.st st', rfl, O, dp_same (s1.trans s2) _ _ hc', hrv2, Rw2, dp_same s2 _ _ hy5, St2, fun l H3 s3 _ hl => ⟨l, _, rfl, .inl ⟨SqL.of hl, fun ta hta => ?_⟩⟩⟩
      have s4 := same_new (o := .tup ((C.lev (z.st st') (z.row row')).map V.int)) hta
      have hta4 : SqT K (upd H3 ta (.tup ((C.lev (z.st st') (z.row row')).map V.int))) ta ((C.lev (z.st st') (z.row row')).map V.int) := upd_tup
      have s14 := ((s1.trans s2).trans s3).trans s4
      have s24 := (s2.trans s3).trans s4
      have s34 := s3.trans s4
      generalize upd H3 ta (.tup ((C.lev (z.st st') (z.row row')).map V.int)) = H4 at s4 hta4 s14 s24 s34
      obtain ⟨dvs, hDv, hDd⟩ := e.hD
      obtain ⟨rvs, hRv, hRd⟩ := e.hR
      have ldv : dvs.length = i := by rw [dpAll_len hDd, List.length_map, e.len]
      have hD4 := s14 _ _ hDv
      refine ⟨_, rfl, .inl ⟨rfl, _, SqL.of hD4⟩, _, rfl, _, rfl, by show 2 ≤ sizeLine; decide, fun t5 ht5 => ?_⟩
      have s5 := same_new (o := .tup [v, V.ref ea]) ht5
      have hD5 := s5 _ _ hD4
      refine ⟨D, _, _, rfl, rfl, hD5, Nat.lt_of_le_of_lt (show dvs.length ≤ 100000 by omega) (by decide), ?_⟩
      have k6 := keep_set (o := .lst (dvs ++ [V.ref t5])) hD5
      have t5p : Dp K (upd H4 t5 (.tup [v, V.ref ea])) (.ref t5) (seD (z, z.edt row' st')) := .tup upd_tup (.cons (dp_same (s14.trans s5) _ _ dv) (.cons (dp_same ((s24).trans s5) _ _ hev0) .nil))
      have s05 : Same HB (upd H4 t5 (.tup [v, V.ref ea])) := (e.sm.trans s14).trans s5
      have hR5 := s5 _ _ (s14 _ _ hRv)
      generalize upd H4 t5 (.tup [v, V.ref ea]) = H5 at k6 t5p s05 hR5 hD5 s5
      have s06 : Same HB (upd H5 D (.lst (dvs ++ [V.ref t5]))) := same_put s05 hDn
      have hD6 : (upd H5 D (.lst (dvs ++ [V.ref t5]))) D = some (.lst (dvs ++ [V.ref t5])) := upd_same
      have hR6 := (upd_ne (H := H5) (o := .lst (dvs ++ [V.ref t5])) neDR.symm).trans hR5
      have hDd6 : DpAll K (upd H5 D (.lst (dvs ++ [V.ref t5]))) (dvs ++ [V.ref t5]) ((dl ++ [(z, z.edt row' st')]).map seD) := by
        rw [List.map_append]
        exact dpAll_app (dpAll_keep k6 _ _ (noL_ses _) (dpAll_same (s14.trans s5) _ _ hDd)) (.cons (dp_keep k6 _ _ (noL_se _) t5p) .nil)
      have hRd6 : DpAll K (upd H5 D (.lst (dvs ++ [V.ref t5]))) rvs rl := dpAll_keep k6 _ _ (noLs_all e.nl) (dpAll_same (s14.trans s5) _ _ hRd)
      have hb6 := k6.tup (same_tup (s14.trans s5) hb')
      have hta6 := k6.tup (same_tup s5 hta4)
      have hr6 := dp_keep k6 _ _ (noL_row _) (dp_same (s34.trans s5) _ _ hrv2)
      have hs6 := dp_keep k6 _ _ (noL_pair _) (dp_same (s24.trans s5) _ _ hy5)
      generalize upd H5 D (.lst (dvs ++ [V.ref t5])) = H6 at s06 hD6 hR6 hDd6 hRd6 hb6 hta6 hr6 hs6
      refine ⟨_, rfl, .inl ⟨rfl, _, SqL.of hR6⟩, _, rfl, _, rfl, b', ta, _, _, rfl, hb6, hta6, ?_, ?_, fun rp H7 s7 hrp => ?_⟩
      · rw [lev_len]; have := e.Rw.len; omega
      · rw [lev_len]; have := Rw2.len; omega
      have hR7 := s7 _ _ hR6
      have lrv : rvs.length ≤ 100000 := by
        have := congrArg List.length e.rp
        rw [List.length_append, ← dpAll_len hRd6] at this
        have h2 : ∀ (ss : List Stp) (st : Int × Int) (row : List Nat), (rpl C st row ss).length = ss.length := fun ss => by
          induction ss with
          | nil => intros; rfl
          | cons a b ih => intro st row; show (rpl C _ _ b).length + 1 = b.length + 1; rw [ih]
        rw [h2] at this
        omega
      refine ⟨R, _, _, rfl, rfl, hR7, Nat.lt_of_le_of_lt lrv (by decide), ?_⟩
      have k8 := keep_set (o := .lst (rvs ++ [rp])) hR7
      refine ⟨_, rfl, _, _, _, _, _, _, _, rl ++ [repD (C.lev st' row') (C.lev (z.st st') (z.row row'))], _, _, rfl, ⟨same_put (s06.trans s7) hRB, ⟨_, (upd_ne neDR).trans (s7 _ _ hD6), dpAll_keep k8 _ _ (noL_ses _) (dpAll_same s7 _ _ hDd6)⟩, ⟨_, upd_same, ?_⟩, dp_keep k8 _ _ (noL_row _) (dp_same s7 _ _ hr6), dp_keep k8 _ _ (noL_pair _) (dp_same s7 _ _ hs6), ⟨ta, rfl, k8.tup (same_tup s7 hta6)⟩, ?_, ?_, er, es, ok3, Rw2, St2, ?_, ?_⟩, by omega⟩
      · exact dpAll_app (dpAll_keep k8 _ _ (noLs_all e.nl) (dpAll_same s7 _ _ hRd6)) (.cons (dp_keep k8 _ _ (noL_rep _ _) hrp) .nil)
      · rw [ee, List.append_assoc]
        rfl
      · rw [ep, List.append_assoc]
        rfl
      · rw [List.length_append, e.len]
        rfl
      · intro d hd
        rcases List.mem_append.mp hd with h | h
        · exact e.nl d h
        · rw [List.mem_singleton.mp h]; exact noL_rep _ _
    · rintro σ G0 ⟨x8, x9, x10, rv, sv, bv, dl, rl, row', st', rfl, e, hle⟩
      rw [List.length_append] at hle
      obtain rfl : ys = [] := List.length_eq_zero_iff.mp (by omega)
      rw [List.append_nil] at e
      obtain ⟨_, q⟩ | ⟨y, yr, hy, _⟩ := h
      rotate_left
      · cases hy
      have hn : ss.drop xs.length = [] := by rw [lx]; exact List.drop_length
      obtain ⟨eo, er, ep, ee, es⟩ : stpsOk C row' [] ∧ endR row ss = endR row' [] ∧ rpl C st row ss = rl ++ rpl C st' row' [] ∧ edl st row ss = dl ++ edl st' row' [] ∧ endS st ss = endS st' [] := by
        rw [← hn]
        exact ⟨e.ok, e.er, e.rp, e.ed, e.es⟩
      have er : endR row ss = row' := er
      have es : endS st ss = st' := es
      have ep : rpl C st row ss = rl := by rw [ep]; exact List.append_nil _
      have ee : edl st row ss = dl := by rw [ee]; exact List.append_nil _
      obtain ⟨dvs, hDv, hDd⟩ := e.hD
      obtain ⟨rvs, hRv, hRd⟩ := e.hR
      have ldv : dvs.length = ss.length := by rw [dpAll_len hDd, List.length_map, e.len, lx]
      have s0 := sB.trans e.sm
      rw [er, es, ep, ee] at q
      refine ⟨_, rfl, !dvs.isEmpty, .inl ⟨dvs, SqL.of hDv, rfl⟩, ?_⟩
      by_cases hz : ss = []
      · have hdv : dvs = [] := List.length_eq_zero_iff.mp (by rw [ldv, hz]; rfl)
        have hdl : dl = [] := List.length_eq_zero_iff.mp (by rw [e.len, lx, hz]; rfl)
        have hrow' : row' = row := by rw [← er, hz]; rfl
        have hst' : st' = st := by rw [← es, hz]; rfl
        subst hrow' hst'
        rw [hdv]
        refine iteF ⟨_, rfl, q R rvs u G0 (.same s0) hRv (sB.free hRB) hRd (fun _ => ⟨rfl, s0⟩) (fun h => absurd hz h) ?_⟩
        rw [hdl, if_pos hz, List.append_nil]
        exact hD.same s0
      · have hne : (!dvs.isEmpty) = true := by
          cases dvs with
          | nil => exact absurd (List.length_eq_zero_iff.mp ldv.symm) hz
          | cons _ _ => rfl
        rw [hne]
        refine iteT ?_
        have hp0 := s0 _ _ hp
        obtain ⟨ds, hd0, hdd⟩ := hD.dl
        have hd0 := s0 _ _ hd0
        have hdd0 := dpAll_same s0 _ _ hdd
        have lds : ds.length = dn.length := by rw [dpAll_len hdd, List.length_map]
        have ndp : d ≠ p := fun h => by rw [h, hp0] at hd0; cases hd0
        refine ⟨_, rfl, p, T.C_Desk, dx, _, _, rfl, hp0, T.cl_Desk, T.na_Desk__done, rfl, .inl ⟨rfl, _, SqL.of hd0⟩, _, rfl, d, D, _, _, rfl, rfl, hd0, hDv, sz_line (by omega), ?_⟩
        have F1 : DkF p d u H (upd G0 d (.lst (ds ++ dvs))) := (DkF.same s0).upd (.inr (.inl rfl))
        have k1 : Keep G0 (upd G0 d (.lst (ds ++ dvs))) := keep_set hd0
        have fc1 : ClS T (upd G0 d (.lst (ds ++ dvs))) f C row0 st0 := (hD.fc.same s0).lst hd0
        have d1 : (upd G0 d (.lst (ds ++ dvs))) d = some (.lst (ds ++ dvs)) := upd_same
        have p1 := (upd_ne (H := G0) (o := .lst (ds ++ dvs)) ndp.symm).trans hp0
        have nRd : R ≠ d := fun h => by
          have := sB.free hRB
          rw [h] at this
          obtain ⟨_, z, _⟩ := hD.dl
          rw [this] at z
          cases z
        have R1 := (upd_ne (H := G0) (o := .lst (ds ++ dvs)) nRd).trans hRv
        generalize upd G0 d (.lst (ds ++ dvs)) = G1 at F1 k1 fc1 d1 p1 R1
        refine ⟨by show 0 ≤ sizeLine; decide, fun u' hu' => ?_⟩
        have s2 := same_new (o := .lst []) hu'
        have u2 : (upd G1 u' (.lst [])) u' = some (.lst []) := upd_same
        have nup : u' ≠ p := fun h => by rw [h, p1] at hu'; cases hu'
        have nud : d ≠ u' := fun h => by rw [← h, d1] at hu'; cases hu'
        have hu0 : H u' = none := F1.dm _ hu'
        have F2 := F1.trans (DkF.same s2) (.inl rfl)
        have k2 := k1.trans (keep_same s2)
        have fc2 := fc1.same s2
        have d2 := s2 _ _ d1
        have p2 := s2 _ _ p1
        have R2 := s2 _ _ R1
        generalize upd G1 u' (.lst []) = G2 at s2 u2 F2 k2 fc2 d2 p2 R2
        refine ⟨_, rfl, p, T.C_Desk, dx, _, rfl, p2, T.cl_Desk, T.na_Desk__undone, by show 6 < 1000; decide, ?_⟩
        have k3 := exI_ins (o := dkO T dx (.ref f) r x (.ref d) (.ref u') n) p2
        have nfp : f ≠ p := fun h => by
          obtain ⟨_, _, _, _, z, _⟩ := fc2.ex
          rw [h, p2] at z
          unfold dkO clO at z
          injection z with z
          injection z with z _ _
          exact necd z.symm
        have F3 := F2.upd (o := dkO T dx (.ref f) r x (.ref d) (.ref u') n) (.inl rfl)
        have fc3 := fc2.exI (o := dkO T dx (.ref f) r x (.ref d) (.ref u') n) p2 nfp
        have p3 : (upd G2 p (dkO T dx (.ref f) r x (.ref d) (.ref u') n)) p = some (dkO T dx (.ref f) r x (.ref d) (.ref u') n) := upd_same
        have kk3 := k2.trans (exI_keep k3)
        have d3 := k3 _ _ d2 nofun nofun
        have u3 := k3 _ _ u2 nofun nofun
        have R3 := k3 _ _ R2 nofun nofun
        show Ends.nx _ _ (upd G2 p (dkO T dx (.ref f) r x (.ref d) (.ref u') n))
        generalize upd G2 p (dkO T dx (.ref f) r x (.ref d) (.ref u') n) = G3 at k3 F3 fc3 p3 kk3 d3 u3 R3
        refine ⟨_, rfl, _, rfl, by show 2 ≤ sizeLine; decide, fun tt htt => ?_⟩
        have s4 := same_new (o := .tup [rv, sv]) htt
        have t4 : SqT K (upd G3 tt (.tup [rv, sv])) tt [rv, sv] := upd_tup
        have F4 := F3.trans (DkF.same s4) (.inl rfl)
        have kk4 := kk3.trans (keep_same s4)
        have fc4 := fc3.same s4
        have p4 := s4 _ _ p3
        have d4 := s4 _ _ d3
        have u4 := s4 _ _ u3
        have R4 := s4 _ _ R3
        generalize upd G3 tt (.tup [rv, sv]) = G4 at s4 t4 F4 kk4 fc4 p4 d4 u4 R4
        refine ⟨tt, _, rfl, t4, rfl, _, _, rfl, ?_⟩
        refine ⟨_, rfl, p, T.C_Desk, dx, _, rfl, p4, T.cl_Desk, T.na_Desk__codes, by show 6 < 1000; decide, _, _, rfl, _, rfl, p, T.C_Desk, dx, _, rfl, upd_same, T.cl_Desk, T.na_Desk__state, by show 6 < 1000; decide, rfl, ?_⟩
        rw [upd_upd]
        show Ends.nx _ _ (upd G4 p (dkO T dx (.ref f) rv sv (.ref d) (.ref u') n))
        have k5 := exI_ins (o := dkO T dx (.ref f) rv sv (.ref d) (.ref u') n) p4
        have kk5 := kk4.trans (exI_keep k5)
        refine ⟨_, rfl, q R rvs u' _ (F4.upd (.inl rfl)) (k5 _ _ R4 nofun nofun) (sB.free hRB) (dpAll_keep kk5 _ _ (noLs_all e.nl) hRd) (fun h => absurd h hz) (fun _ => hu0) ?_⟩
        rw [if_neg hz]
        refine ⟨⟨dx, rv, sv, upd_same, dp_keep kk5 _ _ (noL_row _) e.hr, dp_keep kk5 _ _ (noL_pair _) e.hs⟩, fc4.exI p4 nfp, ⟨_, k5 _ _ d4 nofun nofun, ?_⟩, ⟨[], k5 _ _ u4 nofun nofun, .nil⟩, nud, e.Rw, e.St⟩
        rw [List.map_append]
        exact dpAll_app (dpAll_keep kk5 _ _ (noL_ses _) hdd0) (dpAll_keep kk5 _ _ (noL_ses _) hDd)
def sp_Desk_do (T : Txt K mg) : Sp := fun vs H Q E => ∃ (p f d u : Addr) (v : V) (C : Cod) (row0 row : List Nat) (st0 st : Int × Int) (dn un : List (Stp × Edt)) (n : Nat), vs = [.ref p, v] ∧ DkS T H p f d u C row0 st0 row st dn un n ∧ dn.length < 90000 ∧ ((∃ s : Stp,
  Dp K H v s.dat ∧ s.Ok C row ∧ (s.row row).length ≤ 2000 ∧
  ∀ z u' H', DkF p d u H H' → H u' = none → DkS T H' p f d u' C row0 st0 (s.row row) (s.st st) (dn ++ [(s, s.edt row st)]) [] (n + 1) → Dp K H' z (repD (C.lev st row) (C.lev (s.st st) (s.row row))) → Q z H') ∨
  (BadT K H C row v ∧ ∀ H', DkF p d u H H' → DkS T H' p f d u C row0 st0 row st dn un (n + 1) → E (.ref T.C_OutOfPlace) none H') ∨
  ∃ i k : Nat, Dp K H v (Stp.put i k).dat ∧ (Stp.put i k).Ok C row ∧ row.length = 2000 ∧ ∀ dd H', DkF p d u H H' → DkS T H' p f d u C row0 st0 row st dn un (n + 1) → H' dd = some (.xd [("most", .int 2000)]) → E (.ref T.C_TooGreat) (some dd) H')
set_option maxHeartbeats 1000000 in
theorem ok_Desk_do (T : Txt K mg) : FnOk P w K mg base (L2.CX P w) 13 T.f_Desk_do T.d_Desk_do ["self", "step"] (sp_Desk_do T) := by
  refine T.F_Desk_do.okX sc_Desk_do (fun vs H Q E h => ?_) (fun cdv A outer s H vs Q E hr h => ?_)
  · obtain ⟨p, f, d, u, v, C, row0, row, st0, st, dn, un, n, rfl, _⟩ := h
    rfl
  · obtain ⟨p, f, d, u, v, C, row0, row, st0, st, dn, un, n, rfl, hD, hm, h⟩ := h
    obtain ⟨dx, r, x, hp, hrow, hx⟩ := hD.ob
    refine ⟨_,
(pss_cons (ps_fld (pv 0) (pe_op op_add (pe_fld (pv 0) rfl) pe_int) rfl)
      (pss_one (ps_ret (pe_ix ix_list (pe_meth (pv 0) T.cl_Desk T.me_Desk_do_each (ok_Desk_do_each T) (hr.mono (by decide)) T.b_Desk_do_each .nil (passes_call (takes_of rfl rfl rfl rfl) (fun _ _ _ _ h => h)) (pa_cons (pe_lst (pa_cons (pv 1) pa_nil)) pa_nil)) pe_int (fun _ _ => rfl)))))
, ?_⟩
    refine ⟨_, rfl, p, T.C_Desk, dx, _, _, rfl, hp, T.cl_Desk, T.na_Desk__tries, rfl, _, _, rfl, rfl, _, rfl, p, T.C_Desk, dx, _, rfl, hp, T.cl_Desk, T.na_Desk__tries, by show 6 < 1000; decide, ?_⟩
    have k1 := exI_ins (o := dkO T dx (.ref f) r x (.ref d) (.ref u) (n + 1)) hp
    have D1 : DkS T (upd H p (dkO T dx (.ref f) r x (.ref d) (.ref u) (n + 1))) p f d u C row0 st0 row st dn un (n + 1) := hD.put hp T.ne_cd hrow hx hD.ul hD.du hD.R hD.St
    have F1 : DkF p d u H (upd H p (dkO T dx (.ref f) r x (.ref d) (.ref u) (n + 1))) := (DkF.same (Same.refl H)).upd (.inl rfl)
    have p1 : (upd H p (dkO T dx (.ref f) r x (.ref d) (.ref u) (n + 1))) p = some (dkO T dx (.ref f) r x (.ref d) (.ref u) (n + 1)) := upd_same
    show Ends.nx _ _ (upd H p (dkO T dx (.ref f) r x (.ref d) (.ref u) (n + 1)))
    generalize upd H p (dkO T dx (.ref f) r x (.ref d) (.ref u) (n + 1)) = H1 at k1 D1 F1 p1
    refine ⟨_, rfl, p, dx, _, rfl, p1, rfl, _, rfl, by show 1 ≤ sizeLine; decide, fun L hL => ?_⟩
    have s2 := same_new (o := .lst [v]) hL
    have hL2 : (upd H1 L (.lst [v])) L = some (.lst [v]) := upd_same
    have F2 := F1.trans (DkF.same s2) (.inl rfl)
    rcases h with ⟨z, hv, ok1, ok2, q⟩ | ⟨hb, q⟩ | ⟨i, k, hv, ok1, hl, q⟩
    · refine ⟨p, L, f, d, u, C, row0, row, st0, st, dn, un, n + 1, [v], [], [z], rfl, D1.same s2, SqL.of hL2, .cons (dp_same s2 _ _ (dp_exI k1 _ _ hv)) .nil, ⟨ok1, ok2, True.intro⟩, by show dn.length + 1 ≤ 100000; omega, T.ne_cd, .inl ⟨rfl, fun R reps u' H' F hR _ hrep _ hu' D' => ?_⟩⟩
      cases hrep with
      | cons h1 h2 =>
        cases h2 with
        | nil =>
          exact ⟨R, _, 0, _, rfl, rfl, SqL.of hR, atI_nat (j := 0) rfl, q _ u' H' (F2.trans F (.inl rfl)) (F2.dm _ (hu' nofun)) D' h1⟩
    · refine ⟨p, L, f, d, u, C, row0, row, st0, st, dn, un, n + 1, [], [v], [], rfl, D1.same s2, SqL.of hL2, .nil, True.intro, by show dn.length + 0 ≤ 100000; omega, T.ne_cd, .inr ⟨v, [], rfl, .inl ⟨(hb.exI k1).same s2, fun H' s' => q H' (F2.trans (DkF.same s') (.inl rfl)) ((D1.same s2).same s')⟩⟩⟩
    · refine ⟨p, L, f, d, u, C, row0, row, st0, st, dn, un, n + 1, [], [v], [], rfl, D1.same s2, SqL.of hL2, .nil, True.intro, by show dn.length + 0 ≤ 100000; omega, T.ne_cd, .inr ⟨v, [], rfl, .inr ⟨i, k, dp_same s2 _ _ (dp_exI k1 _ _ hv), ok1, hl, fun dd H' s' hd => q dd H' (F2.trans (DkF.same s') (.inl rfl)) ((D1.same s2).same s') hd⟩⟩⟩
theorem tyx_tupI {H : Hp} {a : Addr} {xs : List V} (h : SqT K H a xs) : TyX K H (.ref a) (.type "tuple") := by
  rcases h with (h | ⟨o, h⟩) | ⟨o, its, n, h, hc, _⟩
  · exact .base (.tup h)
  · exact .fTuple h
  · exact .kTuple h hc
def sp_Desk_do_all (T : Txt K mg) : Sp := fun vs H Q E => ∃ (p f d u : Addr) (v : V) (C : Cod) (row0 row : List Nat) (st0 st : Int × Int) (dn un : List (Stp × Edt)) (n : Nat), vs = [.ref p, v] ∧ DkS T H p f d u C row0 st0 row st dn un n ∧
  ((∃ (L : Addr) (xs ys : List V) (ss : List Stp), v = .ref L ∧ (H L = some (.lst (xs ++ ys)) ∨ SqT K H L (xs ++ ys)) ∧ DpAll K H xs (ss.map Stp.dat) ∧ stpsOk C row ss ∧ dn.length + ss.length ≤ 100000 ∧
    ((ys = [] ∧ ∀ R reps u' H', DkF p d u H H' → H' R = some (.lst reps) → H R = none → DpAll K H' reps (rpl C st row ss) → (ss = [] → u' = u) → (ss ≠ [] → H u' = none) → DkS T H' p f d u' C row0 st0 (endR row ss) (endS st ss) (dn ++ edl st row ss) (if ss = [] then un else []) (n + 1) → Q (.ref R) H') ∨
     ∃ y yr, ys = y :: yr ∧ ((BadT K H C (endR row ss) y ∧ ∀ H', DkF p d u H H' → DkS T H' p f d u C row0 st0 row st dn un (n + 1) → E (.ref T.C_OutOfPlace) none H') ∨
      ∃ i k : Nat, Dp K H y (Stp.put i k).dat ∧ (Stp.put i k).Ok C (endR row ss) ∧ (endR row ss).length = 2000 ∧ ∀ dd H', DkF p d u H H' → DkS T H' p f d u C row0 st0 row st dn un (n + 1) → H' dd = some (.xd [("most", .int 2000)]) → E (.ref T.C_TooGreat) (some dd) H'))) ∨
   ((∀ H', DkF p d u H H' → DkS T H' p f d u C row0 st0 row st dn un (n + 1) → ∃ ty : Value, TyX K H' v ty ∧ PySem.W.kitOne K ty (.type "list") = some false ∧ PySem.W.kitOne K ty (.type "tuple") = some false) ∧ ∀ H', DkF p d u H H' → DkS T H' p f d u C row0 st0 row st dn un (n + 1) → E (.ref T.C_OutOfPlace) none H'))
set_option maxHeartbeats 1000000 in
theorem ok_Desk_do_all (T : Txt K mg) : FnOk P w K mg base (L2.CX P w) 13 T.f_Desk_do_all T.d_Desk_do_all ["self", "steps"] (sp_Desk_do_all T) := by
  refine T.F_Desk_do_all.okX sc_Desk_do_all (fun vs H Q E h => ?_) (fun cdv A outer s H vs Q E hr h => ?_)
  · obtain ⟨p, f, d, u, v, C, row0, row, st0, st, dn, un, n, rfl, _⟩ := h
    rfl
  · obtain ⟨p, f, d, u, v, C, row0, row, st0, st, dn, un, n, rfl, hD, h⟩ := h
    obtain ⟨dx, r, x, hp, hrow, hx⟩ := hD.ob
    refine ⟨_,
(pss_cons (ps_fld (pv 0) (pe_op op_add (pe_fld (pv 0) rfl) pe_int) rfl)
      (pss_cons (ps_if (pt_not (pt_val (pe_callB (call_isiT) (by rfl) T.z_isinstance (by decide +kernel) (pa_cons (pv 1) (pa_cons (pe_tup (pa_cons (pe_bltn (v := .ty "list") (by rfl) T.z_list (by decide +kernel) rfl) (pa_cons (pe_bltn (v := .ty "tuple") (by rfl) T.z_tuple (by decide +kernel) rfl) pa_nil))) pa_nil))))) (pss_one (ps_raise rfl (takes_of rfl rfl rfl rfl) (My.pmk0 T.o_OutOfPlace T.i_OutOfPlace T.t_OutOfPlace (oki_OutOfPlace T) (hr.mono (by decide)) T.bi_OutOfPlace T.g_OutOfPlace (pa_cons pe_str pa_nil)))) pss_nil)
      (pss_one (ps_ret (pe_meth (pv 0) T.cl_Desk T.me_Desk_do_each (ok_Desk_do_each T) (hr.mono (by decide)) T.b_Desk_do_each .nil (passes_call (takes_of rfl rfl rfl rfl) (fun _ _ _ _ h => h)) (pa_cons (pe_callTy call_list_of (by rfl) T.z_list (by decide +kernel) (pa_cons (pv 1) pa_nil)) pa_nil))))))
, ?_⟩
    refine ⟨_, rfl, p, T.C_Desk, dx, _, _, rfl, hp, T.cl_Desk, T.na_Desk__tries, rfl, _, _, rfl, rfl, _, rfl, p, T.C_Desk, dx, _, rfl, hp, T.cl_Desk, T.na_Desk__tries, by show 6 < 1000; decide, ?_⟩
    have k1 := exI_ins (o := dkO T dx (.ref f) r x (.ref d) (.ref u) (n + 1)) hp
    have D1 : DkS T (upd H p (dkO T dx (.ref f) r x (.ref d) (.ref u) (n + 1))) p f d u C row0 st0 row st dn un (n + 1) := hD.put hp T.ne_cd hrow hx hD.ul hD.du hD.R hD.St
    have F1 : DkF p d u H (upd H p (dkO T dx (.ref f) r x (.ref d) (.ref u) (n + 1))) := (DkF.same (Same.refl H)).upd (.inl rfl)
    have p1 : (upd H p (dkO T dx (.ref f) r x (.ref d) (.ref u) (n + 1))) p = some (dkO T dx (.ref f) r x (.ref d) (.ref u) (n + 1)) := upd_same
    show Ends.nx _ _ (upd H p (dkO T dx (.ref f) r x (.ref d) (.ref u) (n + 1)))
    generalize upd H p (dkO T dx (.ref f) r x (.ref d) (.ref u) (n + 1)) = H1 at k1 D1 F1 p1
    refine ⟨_, rfl, ?_⟩
    refine ⟨by show 2 ≤ sizeLine; decide, fun ct h_ct => ?_⟩
    have s_ct := same_new (o := .tup [V.ty "list", V.ty "tuple"]) h_ct
    have t_ctP : (upd H1 ct (.tup [V.ty "list", V.ty "tuple"])) ct = some (.tup [V.ty "list", V.ty "tuple"]) := upd_same
    generalize upd H1 ct (.tup [V.ty "list", V.ty "tuple"]) = H2 at s_ct t_ctP
    have F2 := F1.trans (DkF.same s_ct) (.inl rfl)
    have D2 := D1.same s_ct
    have p2 := s_ct _ _ p1
    have k2 := k1.trans (exI_same s_ct)
    have pc : Paired ClsV [V.ty "list", V.ty "tuple"] [.type "list", .type "tuple"] := .cons (.ty _) (.cons (.ty _) .nil)
    have hct : H2 ct = some (.tup [V.ty "list", V.ty "tuple"]) := t_ctP
    rcases h with ⟨L, xs, ys, ss, rfl, hL, hxs, oks, hmn, h⟩ | ⟨hty, q⟩
    · have hk : ∃ ty : Value, TyX K H2 (.ref L) ty ∧ PySem.W.kitAny K ty [.type "list", .type "tuple"] = some true := by
        rcases hL with hL | hL
        · exact ⟨_, .base (.lst (k2 _ _ hL nofun nofun)), kitAny_cons (b := true) (kit_ty (a := "list") (b := "list") (r := true) (by decide +kernel)) nofun (fun _ => rfl)⟩
        · exact ⟨_, tyx_tupI (exI_tup k2 hL), kitAny_cons (b := false) (kit_ty (a := "tuple") (b := "list") (r := false) (by decide +kernel)) (fun _ => kitAny_cons (b := true) (kit_ty (a := "tuple") (b := "tuple") (r := true) (by decide +kernel)) nofun (fun _ => rfl)) nofun⟩
      obtain ⟨ty, hty, hk⟩ := hk
      refine ⟨_, ct, _, ty, _, true, rfl, hct, pc, hty, hk, _, rfl, ?_⟩
      refine iteF ?_
      have hL2 : SqL K H2 L (xs ++ ys) ∨ SqT K H2 L (xs ++ ys) := by
        rcases hL with hL | hL
        · exact .inl (SqL.of (k2 _ _ hL nofun nofun))
        · exact .inr (exI_tup k2 hL)
      refine ⟨_, rfl, p, dx, _, rfl, p2, rfl, _, rfl, L, xs ++ ys, rfl, hL2, fun L2 hL2n => ?_⟩
      have s3 := same_new (o := .lst (xs ++ ys)) hL2n
      have k3 := k2.trans (exI_same s3)
      have D3 := D2.same s3
      have F3 := F2.trans (DkF.same s3) (.inl rfl)
      have hLL : (upd H2 L2 (.lst (xs ++ ys))) L2 = some (.lst (xs ++ ys)) := upd_same
      generalize upd H2 L2 (.lst (xs ++ ys)) = H3 at s3 k3 D3 F3 hLL
      refine ⟨p, L2, f, d, u, C, row0, row, st0, st, dn, un, n + 1, xs, ys, ss, rfl, D3, SqL.of hLL, dpAll_exI k3 _ _ hxs, oks, hmn, T.ne_cd, ?_⟩
      rcases h with ⟨hy, q⟩ | ⟨y, yr, hy, h⟩
      · exact .inl ⟨hy, fun R reps u' H' F hR hRn hreps hz hnz D' => q R reps u' H' (F3.trans F (.inl rfl)) hR (F3.dm _ hRn) hreps (fun e => (hz e).1) (fun e => F3.dm _ (hnz e)) D'⟩
      · refine .inr ⟨y, yr, hy, ?_⟩
        rcases h with ⟨hb, q⟩ | ⟨i, k, hv, ok, hl, q⟩
        · exact .inl ⟨hb.exI k3, fun H' s' => q H' (F3.trans (DkF.same s') (.inl rfl)) (D3.same s')⟩
        · exact .inr ⟨i, k, dp_exI k3 _ _ hv, ok, hl, fun dd H' s' hd => q dd H' (F3.trans (DkF.same s') (.inl rfl)) (D3.same s') hd⟩
    · obtain ⟨ty, t1, t2, t3⟩ := hty H2 F2 D2
      refine ⟨_, ct, _, ty, _, false, rfl, hct, pc, t1, kitAny_cons (b := false) t2 (fun _ => kitAny_cons (b := false) t3 (fun _ => kitAny_nil) nofun) nofun, _, rfl, ?_⟩
      refine iteT ?_
      refine ⟨by decide, fun a0 ha0 => ⟨a0, _, rfl, upd_same, rfl, upd_same, ?_⟩⟩
      rw [del_new ha0]
      exact q _ F2 D2
theorem yes_anyD {σ : L2.St} {H : Hp} {A B : Hp → Prop} (h : A H) : tYes σ H fun b H3 => if b = true then A H3 else B H3 := by
  show if true = true then A H else B H
  rw [if_pos rfl]
  exact h
def sp_Desk_steps (T : Txt K mg) : Sp := fun vs H Q _ => ∃ (p dx d : Addr) (fv r x u : V) (n : Nat) (ys : List (Stp × Edt)) (xs : List V), vs = [.ref p] ∧ H p = some (dkO T dx fv r x (.ref d) u n) ∧ H d = some (.lst xs) ∧ DpAll K H xs (ys.map seD) ∧ xs.length ≤ 100000 ∧
  ∀ L zs H', Same H H' → H L = none → H' L = some (.lst zs) → DpAll K H' zs (ys.map fun y => y.1.dat) → Q (.ref L) H'
theorem ok_Desk_steps (T : Txt K mg) : FnOk P w K mg base CX0 1 T.f_Desk_steps T.d_Desk_steps ["self"] (sp_Desk_steps T) := by
  refine T.F_Desk_steps.ok sc_Desk_steps (fun vs H Q E h => ?_) (fun cdv A outer s H vs Q E hr h => ?_)
  · obtain ⟨p, dx, d, fv, r, x, u, n, ys, xs, rfl, _⟩ := h
    rfl
  · obtain ⟨p, dx, d, fv, r, x, u, n, ys, xs, rfl, hp, hd, hxs, hl, q⟩ := h
    refine ⟨_,
(pss_one (ps_ret (pe_lc (own := [("step", 1), ("_", 2)]) rfl sc_Desk_steps.nd (pi_list (pe_fld (pv 0) rfl)) (blkOk_by (own := [("step", 1), ("_", 2)]) (N := ["self", "step", "_"]) (sc := defScope s_Desk_steps) (by decide +kernel)) (fun _ _ _ _ _ => (My.pg_tupK (K := K) (n := 2) rfl (pgs_cons (pg_name (i := 1) sc_Desk_steps.nd rfl (Or.inl rfl)) (pgs_cons (pg_name (i := 2) sc_Desk_steps.nd rfl (Or.inl rfl)) pgs_nil)))) (fun _ _ _ _ _ => pts_nil) (fun _ _ _ _ _ => (pv 1)))))
, ?_⟩
    refine ⟨_, rfl, p, T.C_Desk, dx, _, _, rfl, hp, T.cl_Desk, T.na_Desk__done, rfl, d, rfl, ⟨_, SqL.of hd⟩, fun NW hNW => ?_⟩
    refine lc_list (K := K) (a := d) (xs := xs) (fun j H' => Same H H' ∧ ∃ zs, H' NW = some (.lst zs) ∧ zs.length = j ∧ DpAll K H' zs ((ys.take j).map fun y => y.1.dat)) ⟨same_new hNW, [], upd_same, rfl, .nil⟩ ?_ ?_ ?_
    · rintro j H' _ ⟨sm, _⟩
      exact sm.seq (SqL.of hd)
    · rintro j v H' hj ⟨sm, zs, hz, hzl, hzd⟩
      obtain ⟨dd, hdd, dv⟩ := dpAll_get hxs hj
      rw [List.getElem?_map] at hdd
      obtain ⟨y, hy, rfl⟩ := Option.map_eq_some_iff.mp hdd
      have hjl : j < xs.length := (List.getElem?_eq_some_iff.mp hj).1
      obtain ⟨a, es, rfl, ha, he⟩ := dp_tup (dp_same sm _ _ dv)
      obtain ⟨y1, y2, rfl, h1, h2⟩ := dpAll2 he
      refine ⟨a, _, rfl, ha, rfl, _, _, rfl, _, _, rfl, rfl, ?_⟩
      refine ⟨rfl, yes_anyD ?_⟩
      have k := keep_set (o := .lst (zs ++ [y1])) hz
      refine ⟨_, rfl, zs, hz, Nat.lt_of_le_of_lt (show zs.length ≤ 100000 by omega) (by decide), same_put sm hNW, _, upd_same, by rw [List.length_append, hzl]; rfl, ?_⟩
      rw [List.take_add_one, hy, List.map_append]
      exact dpAll_app (dpAll_keep k _ _ (noLs_all fun d hd => by obtain ⟨q, _, rfl⟩ := List.mem_map.mp hd; exact noL_stp _) hzd) (.cons (dp_keep k _ _ (noL_stp _) h1) .nil)
    · rintro H' ⟨sm, zs, hz, hzl, hzd⟩
      rw [List.take_of_length_le (by rw [dpAll_len hxs, List.length_map]; exact Nat.le_refl _)] at hzd
      exact q NW zs H' sm hNW hz hzd
end
end My

set_option pp.maxSteps 600
/-! what the laws of desks draw and tell -/
namespace My
open PySem PySem.Spec PyProof.Rows L2
section
variable {P : Program} {w : World} {K : PySem.W.Frag} {mg : Str → Option Value} {base : Heap}
def pairD2 (st : Int × Int) (row : List Nat) : PyData := .tuple [pairI st, rowI row]
theorem noL_pr (st : Int × Int) (row : List Nat) : noL (pairD2 st row) = true := by
  show (noL (pairI st) && (noL (rowI row) && true)) = true
  rw [noL_row]
  rfl
theorem iteTd {c : Prop} [Decidable c] {A B : Prop} (h : c) (q : A) : if decide c = true then A else B := by
  rw [decide_eq_true h, if_pos rfl]
  exact q
theorem iteFd {c : Prop} [Decidable c] {A B : Prop} (h : ¬ c) (q : B) : if decide c = true then A else B := by
  rw [decide_eq_false h, if_neg (by decide)]
  exact q
def sp_law_step (T : Txt K mg) : Sp := fun vs H Q _ => ∃ (m c l n : Addr) (cv rv : V) (C : Cod) (row : List Nat), vs = [.ref m, cv, rv] ∧ Dr H m c l (n + 3) ∧ C.Ok ∧ Dp K H cv C.dat ∧ Dp K H rv (rowI row) ∧ row.length ≤ 2000 ∧
  ∀ (v : V) (s : Stp) l' H', Kp m l H l' H' → Dr H' m c l' n → Dp K H' v s.dat → s.Ok C row → Q v H'
set_option maxHeartbeats 2000000 in
theorem ok_law_step (T : Txt K mg) : FnOk P w K mg base CX0 5 T.f__law_step T.d__law_step ["m", "coder", "row"] (sp_law_step T) := by
  refine T.F__law_step.ok sc_law_step (fun vs H Q E h => ?_) (fun cdv A outer s H vs Q E hr h => ?_)
  · obtain ⟨m, c, l, n, cv, rv, C, row, rfl, _⟩ := h
    rfl
  · obtain ⟨m, c, l, n, cv, rv, C, row, rfl, D, O, hcv, hrv, hl, q⟩ := h
    obtain ⟨ra, rfl, hra⟩ := row_at hrv
    have l1' : (rowV row).length = row.length := List.length_map ..
    refine ⟨_,
(pss_cons (ps_par (i := 3) (j := 4) (by rfl) sc_law_step.nd rfl rfl (by decide) rfl rfl (pa_cons (pe_call (ok_law_next T) (hr.mono (by decide)) (by rfl) T.g__law_next T.F__law_next.kp T.b__law_next .nil pass0 (pa_cons (pv 0) (pa_cons pe_int pa_nil))) (pa_cons (pe_callB (call_len_seq) (by rfl) T.z_len (by decide +kernel) (pa_cons (pv 2) pa_nil)) pa_nil)) (by rfl))
      (pss_cons (ps_if (PW.pt (pw_and (pt_cmpR op_eq (pv 3) pe_int (nomark _)) (pw_and1 (pt_cmpR op_gt (pv 4) pe_int (nomark _))))) (pss_one (ps_ret (pe_tup (pa_cons pe_str (pa_cons (pe_call (ok_law_next T) (hr.mono (by decide)) (by rfl) T.g__law_next T.F__law_next.kp T.b__law_next .nil pass0 (pa_cons (pv 0) (pa_cons (pv 4) pa_nil))) (pa_cons (pe_call (ok_law_next T) (hr.mono (by decide)) (by rfl) T.g__law_next T.F__law_next.kp T.b__law_next .nil pass0 (pa_cons (pv 0) (pa_cons (pe_callB (call_len_seq) (by rfl) T.z_len (by decide +kernel) (pa_cons (pe_ix ix_tup (pv 1) pe_int (fun _ _ => rfl)) pa_nil)) pa_nil))) pa_nil)))))) pss_nil)
      (pss_cons (ps_if (PW.pt (pw_and (pt_cmpR op_eq (pv 3) pe_int (nomark _)) (pw_and1 (pt_cmpR op_gt (pv 4) pe_int (nomark _))))) (pss_cons (ps_set (i := 5) sc_law_step.nd rfl (Or.inl rfl) (pe_call (ok_law_next T) (hr.mono (by decide)) (by rfl) T.g__law_next T.F__law_next.kp T.b__law_next .nil pass0 (pa_cons (pv 0) (pa_cons (pv 4) pa_nil))))
      (pss_one (ps_ret (pe_tup (pa_cons pe_str (pa_cons (pv 5) (pa_cons (pe_op op_add (pe_op op_add (pv 5) pe_int) (pe_call (ok_law_next T) (hr.mono (by decide)) (by rfl) T.g__law_next T.F__law_next.kp T.b__law_next .nil pass0 (pa_cons (pv 0) (pa_cons (pe_callB (call_min2 rfl) (by rfl) T.z_min (by decide +kernel) (pa_cons pe_int (pa_cons (pe_op op_sub (pv 4) (pv 5)) pa_nil))) pa_nil)))) pa_nil))))))) pss_nil)
      (pss_cons (ps_if (pt_cmpR op_eq (pv 3) pe_int (nomark _)) (pss_one (ps_ret (pe_tup (pa_cons pe_str (pa_cons (pe_call (ok_law_some_state T) (hr.mono (by decide)) (by rfl) T.g__law_some_state T.F__law_some_state.kp T.b__law_some_state .nil pass0 (pa_cons (pv 0) (pa_cons (pv 1) pa_nil))) pa_nil))))) pss_nil)
      (pss_one (ps_ret (pe_tup (pa_cons pe_str (pa_cons (pe_call (ok_law_next T) (hr.mono (by decide)) (by rfl) T.g__law_next T.F__law_next.kp T.b__law_next .nil pass0 (pa_cons (pv 0) (pa_cons (pe_op op_add (pv 4) pe_int) pa_nil))) (pa_cons (pe_call (ok_law_next T) (hr.mono (by decide)) (by rfl) T.g__law_next T.F__law_next.kp T.b__law_next .nil pass0 (pa_cons (pv 0) (pa_cons (pe_callB (call_len_seq) (by rfl) T.z_len (by decide +kernel) (pa_cons (pe_ix ix_tup (pv 1) pe_int (fun _ _ => rfl)) pa_nil)) pa_nil))) pa_nil))))))))))
, ?_⟩
    refine ⟨_, rfl, m, c, l, n + 2, 4, rfl, by decide, by decide, D, fun r l1 H1 p0 p1 kp1 D1 => ⟨_, rfl, ra, _, rfl, .inr ((keep_draw kp1 D).tup hra), _, _, rfl, ?_⟩⟩
    have hr4 : r = 0 ∨ r = 1 ∨ r = 2 ∨ r = 3 := by omega
    rcases hr4 with rfl | rfl | rfl | rfl
    · refine ⟨_, rfl, rfl, _, rfl, iteFd (by decide) ?_⟩
      refine ⟨_, rfl, rfl, _, rfl, iteFd (by decide) ?_⟩
      refine ⟨_, rfl, rfl, _, rfl, iteFd (by decide) ?_⟩
      refine ⟨_, rfl, _, rfl, _, _, rfl, rfl, m, c, l1, n + 1, _, rfl, by rw [l1']; omega, by rw [l1']; omega, D1, fun i l2 H2 i0 i1 kp2 D2 => ?_⟩
      have k12 := keep_draw (kp1.trans kp2) D
      obtain ⟨ca, csa, cma, cms, rfl, hca, _, hcm, hcmd⟩ := cod_at (dp_keep k12 _ _ (noL_cod C) hcv)
      have lcm : cms.length = C.moves.length := by rw [dpAll_len hcmd, List.length_map]
      have m1 := O.m1
      have m2 := O.m2
      refine ⟨_, rfl, _, rfl, ca, _, 3, _, rfl, rfl, hca, atI_nat (j := 3) rfl, cma, cms, rfl, .inr hcm, m, c, l2, n, _, rfl, by rw [lcm]; omega, by rw [lcm]; omega, D2, fun k l3 H3 k0 k1 kp3 D3 => ?_⟩
      rw [l1'] at i1
      rw [lcm] at k1
      obtain ⟨i, rfl⟩ : ∃ z : Nat, i = (z : Int) := ⟨i.toNat, by omega⟩
      obtain ⟨k, rfl⟩ : ∃ z : Nat, k = (z : Int) := ⟨k.toNat, by omega⟩
      refine ⟨by show 3 ≤ sizeLine; decide, fun t ht => ?_⟩
      exact q _ (.put i k) l3 _ (((kp1.trans kp2).trans kp3).trans (Kp.new ht)) (D3.new ht) (.tup upd_tup (.cons (.str _) (.cons (.int _) (.cons (.int _) .nil)))) ⟨by omega, by omega⟩
    · refine ⟨_, rfl, rfl, _, rfl, iteTd rfl ?_⟩
      by_cases h0 : 0 < row.length
      · refine ⟨_, rfl, _, _, rfl, rfl, _, rfl, iteTd (by rw [l1']; omega) ?_⟩
        refine ⟨_, rfl, _, rfl, m, c, l1, n + 1, _, rfl, by rw [l1']; omega, by rw [l1']; omega, D1, fun i l2 H2 i0 i1 kp2 D2 => ?_⟩
        have k12 := keep_draw (kp1.trans kp2) D
        obtain ⟨ca, csa, cma, cms, rfl, hca, _, hcm, hcmd⟩ := cod_at (dp_keep k12 _ _ (noL_cod C) hcv)
        have lcm : cms.length = C.moves.length := by rw [dpAll_len hcmd, List.length_map]
        have m1 := O.m1
        have m2 := O.m2
        refine ⟨_, rfl, _, rfl, ca, _, 3, _, rfl, rfl, hca, atI_nat (j := 3) rfl, cma, cms, rfl, .inr hcm, m, c, l2, n, _, rfl, by rw [lcm]; omega, by rw [lcm]; omega, D2, fun k l3 H3 k0 k1 kp3 D3 => ?_⟩
        rw [l1'] at i1
        rw [lcm] at k1
        obtain ⟨i, rfl⟩ : ∃ z : Nat, i = (z : Int) := ⟨i.toNat, by omega⟩
        obtain ⟨k, rfl⟩ : ∃ z : Nat, k = (z : Int) := ⟨k.toNat, by omega⟩
        refine ⟨by show 3 ≤ sizeLine; decide, fun t ht => ?_⟩
        exact q _ (.set i k) l3 _ (((kp1.trans kp2).trans kp3).trans (Kp.new ht)) (D3.new ht) (.tup upd_tup (.cons (.str _) (.cons (.int _) (.cons (.int _) .nil)))) ⟨by omega, by omega⟩
      · refine ⟨_, rfl, _, _, rfl, rfl, _, rfl, iteFd (by rw [l1']; omega) ?_⟩
        refine ⟨_, rfl, rfl, _, rfl, iteFd (by decide) ?_⟩
        refine ⟨_, rfl, rfl, _, rfl, iteFd (by decide) ?_⟩
        refine ⟨_, rfl, _, rfl, _, _, rfl, rfl, m, c, l1, n + 1, _, rfl, by rw [l1']; omega, by rw [l1']; omega, D1, fun i l2 H2 i0 i1 kp2 D2 => ?_⟩
        have k12 := keep_draw (kp1.trans kp2) D
        obtain ⟨ca, csa, cma, cms, rfl, hca, _, hcm, hcmd⟩ := cod_at (dp_keep k12 _ _ (noL_cod C) hcv)
        have lcm : cms.length = C.moves.length := by rw [dpAll_len hcmd, List.length_map]
        have m1 := O.m1
        have m2 := O.m2
        refine ⟨_, rfl, _, rfl, ca, _, 3, _, rfl, rfl, hca, atI_nat (j := 3) rfl, cma, cms, rfl, .inr hcm, m, c, l2, n, _, rfl, by rw [lcm]; omega, by rw [lcm]; omega, D2, fun k l3 H3 k0 k1 kp3 D3 => ?_⟩
        rw [l1'] at i1
        rw [lcm] at k1
        obtain ⟨i, rfl⟩ : ∃ z : Nat, i = (z : Int) := ⟨i.toNat, by omega⟩
        obtain ⟨k, rfl⟩ : ∃ z : Nat, k = (z : Int) := ⟨k.toNat, by omega⟩
        refine ⟨by show 3 ≤ sizeLine; decide, fun t ht => ?_⟩
        exact q _ (.put i k) l3 _ (((kp1.trans kp2).trans kp3).trans (Kp.new ht)) (D3.new ht) (.tup upd_tup (.cons (.str _) (.cons (.int _) (.cons (.int _) .nil)))) ⟨by omega, by omega⟩
    · refine ⟨_, rfl, rfl, _, rfl, iteFd (by decide) ?_⟩
      refine ⟨_, rfl, rfl, _, rfl, iteTd rfl ?_⟩
      by_cases h0 : 0 < row.length
      · refine ⟨_, rfl, _, _, rfl, rfl, _, rfl, iteTd (by rw [l1']; omega) ?_⟩
        refine ⟨_, rfl, _, rfl, m, c, l1, n + 1, _, rfl, by rw [l1']; omega, by rw [l1']; omega, D1, fun i l2 H2 i0 i1 kp2 D2 => ?_⟩
        rw [l1'] at i1
        obtain ⟨i, rfl⟩ : ∃ z : Nat, i = (z : Int) := ⟨i.toNat, by omega⟩
        refine ⟨_, rfl, _, rfl, _, _, rfl, rfl, _, rfl, _, rfl, _, rfl, _, _, rfl, rfl, _, _, rfl, m, c, l2, n, _, rfl, by rw [l1']; split <;> omega, by rw [l1']; split <;> omega, D2, fun k l3 H3 k0 k1 kp3 D3 => ?_⟩
        rw [l1'] at k1
        obtain ⟨k, rfl⟩ : ∃ z : Nat, k = (z : Int) := ⟨k.toNat, by omega⟩
        refine ⟨_, _, rfl, rfl, by show 3 ≤ sizeLine; decide, fun t ht => ?_⟩
        have hk : i + 1 + k ≤ row.length := by split at k1 <;> omega
        refine q _ (.cut i (i + 1 + k)) l3 _ (((kp1.trans kp2).trans kp3).trans (Kp.new ht)) (D3.new ht) (.tup upd_tup (.cons (.str _) (.cons (.int _) (.cons ?_ .nil)))) ⟨by omega, hk⟩
        have : (((i + 1 + k : Nat) : Int)) = (i : Int) + 1 + (k : Int) := by omega
        rw [this]
        exact .int _
      · refine ⟨_, rfl, _, _, rfl, rfl, _, rfl, iteFd (by rw [l1']; omega) ?_⟩
        refine ⟨_, rfl, rfl, _, rfl, iteFd (by decide) ?_⟩
        refine ⟨_, rfl, _, rfl, _, _, rfl, rfl, m, c, l1, n + 1, _, rfl, by rw [l1']; omega, by rw [l1']; omega, D1, fun i l2 H2 i0 i1 kp2 D2 => ?_⟩
        have k12 := keep_draw (kp1.trans kp2) D
        obtain ⟨ca, csa, cma, cms, rfl, hca, _, hcm, hcmd⟩ := cod_at (dp_keep k12 _ _ (noL_cod C) hcv)
        have lcm : cms.length = C.moves.length := by rw [dpAll_len hcmd, List.length_map]
        have m1 := O.m1
        have m2 := O.m2
        refine ⟨_, rfl, _, rfl, ca, _, 3, _, rfl, rfl, hca, atI_nat (j := 3) rfl, cma, cms, rfl, .inr hcm, m, c, l2, n, _, rfl, by rw [lcm]; omega, by rw [lcm]; omega, D2, fun k l3 H3 k0 k1 kp3 D3 => ?_⟩
        rw [l1'] at i1
        rw [lcm] at k1
        obtain ⟨i, rfl⟩ : ∃ z : Nat, i = (z : Int) := ⟨i.toNat, by omega⟩
        obtain ⟨k, rfl⟩ : ∃ z : Nat, k = (z : Int) := ⟨k.toNat, by omega⟩
        refine ⟨by show 3 ≤ sizeLine; decide, fun t ht => ?_⟩
        exact q _ (.put i k) l3 _ (((kp1.trans kp2).trans kp3).trans (Kp.new ht)) (D3.new ht) (.tup upd_tup (.cons (.str _) (.cons (.int _) (.cons (.int _) .nil)))) ⟨by omega, by omega⟩
    · refine ⟨_, rfl, rfl, _, rfl, iteFd (by decide) ?_⟩
      refine ⟨_, rfl, rfl, _, rfl, iteFd (by decide) ?_⟩
      refine ⟨_, rfl, rfl, _, rfl, iteTd rfl ?_⟩
      refine ⟨_, rfl, _, rfl, m, c, l1, n, cv, C, rfl, O, dp_keep (keep_draw kp1 D) _ _ (noL_cod C) hcv, D1, fun hv st l2 H2 kp2 D2 hst hhv => ?_⟩
      refine ⟨by show 2 ≤ sizeLine; decide, fun t ht => ?_⟩
      exact q _ (.frm st) l2 _ ((kp1.trans kp2).trans (Kp.new ht)) (D2.new ht) (.tup upd_tup (.cons (.str _) (.cons (dp_same (same_new ht) _ _ hhv) .nil))) hst
theorem wordI_f {t t' : Str} {i : Int} (h : decide (t = t') = false) : V.int (i + (if decide (V.str t = V.str t') = true then 1 else 0)) = V.int i := by
  have ne : t ≠ t' := of_decide_eq_false h
  rw [decide_eq_false (fun e => ne (by injection e)), if_neg (by decide), Int.add_zero]
theorem wordI_t {t : Str} {i : Nat} : V.int (((i : Nat) : Int) + (if decide (V.str t = V.str t) = true then 1 else 0)) = V.int ((i + 1 : Nat) : Int) := by
  rw [decide_eq_true rfl, if_pos rfl]
  rfl
theorem lv_atD {H : Hp} {C : Cod} {st : Int × Int} {row : List Nat} {xs : List V} {j : Nat} {v : V} (h : DpAll K H xs ((C.path st row).map pairI)) (e : (xs.drop 1)[j]? = some v) :
    ∃ (a : Addr) (z : Int × Int), v = .ref a ∧ SqT K H a [.int z.1, .int z.2] ∧ (C.lev st row)[j]? = some z.1 := by
  rw [List.getElem?_drop] at e
  obtain ⟨d, hd, hv⟩ := dpAll_get h e
  rw [List.getElem?_map] at hd
  obtain ⟨z, hz, rfl⟩ := Option.map_eq_some_iff.mp hd
  obtain ⟨a, rfl, ha⟩ := dp_pair hv
  refine ⟨a, z, rfl, ha, ?_⟩
  rw [← path_tail, List.getElem?_map, List.getElem?_drop, hz]
  rfl
def sp_law_done (T : Txt K mg) : Sp := fun vs H Q _ => ∃ (pv sv : V) (C : Cod) (row : List Nat) (st : Int × Int) (s : Stp), vs = [pv, sv] ∧ Dp K H pv (pairD2 st row) ∧ Dp K H sv s.dat ∧ s.Ok C row ∧ row.length ≤ 2000 ∧
  ∀ q H', Same H H' → Dp K H' q (pairD2 (s.st st) (s.row row)) → Q q H'
set_option maxHeartbeats 2000000 in
theorem ok_law_done (T : Txt K mg) : FnOk P w K mg base CX0 1 T.f__law_done T.d__law_done ["pair", "step"] (sp_law_done T) := by
  refine T.F__law_done.ok sc_law_done (fun vs H Q E h => ?_) (fun cdv A outer s H vs Q E hr h => ?_)
  · obtain ⟨pv, sv, C, row, st, s, rfl, _⟩ := h
    rfl
  · obtain ⟨pv, sv, C, row, st, z, rfl, hp, hs, ok, hl, q⟩ := h
    obtain ⟨pa, xs, rfl, hpa, hpd⟩ := dp_tup hp
    obtain ⟨x1, x2, rfl, h1, h2⟩ := dpAll2 hpd
    obtain ⟨ra, rfl, hra⟩ := row_at h2
    have l1' : (rowV row).length = row.length := List.length_map ..
    refine ⟨_,
(pss_cons (ps_asg (pv 0) (pg_tup (by rfl) (pgs_cons (pg_name (i := 2) sc_law_done.nd rfl (Or.inl rfl)) (pgs_cons (pg_name (i := 3) sc_law_done.nd rfl (Or.inl rfl)) pgs_nil))))
      (pss_cons (ps_if (pt_cmpR op_eq (pe_ix ix_tup (pv 1) pe_int (fun _ _ => rfl)) pe_str (nomark _)) (pss_one (ps_ret (pe_tup (pa_cons (pe_ix ix_tup (pv 1) pe_int (fun _ _ => rfl)) (pa_cons (pv 3) pa_nil))))) pss_nil)
      (pss_cons (ps_if (pt_cmpR op_eq (pe_ix ix_tup (pv 1) pe_int (fun _ _ => rfl)) pe_str (nomark _)) (pss_one (ps_ret (pe_tup (pa_cons (pv 2) (pa_cons (pe_op op_catA (pe_slice sl_tupA (pv 3) po_none (po_some (pe_ix ix_tup (pv 1) pe_int (fun _ _ => rfl)))) (pe_slice sl_tupA (pv 3) (po_some (pe_ix ix_tup (pv 1) pe_int (fun _ _ => rfl))) po_none)) pa_nil))))) pss_nil)
      (pss_one (ps_ret (pe_tup (pa_cons (pv 2) (pa_cons (pe_op op_catA (pe_op op_catA (pe_slice sl_tupA (pv 3) po_none (po_some (pe_ix ix_tup (pv 1) pe_int (fun _ _ => rfl)))) (pe_tup (pa_cons (pe_ix ix_tup (pv 1) pe_int (fun _ _ => rfl)) pa_nil))) (pe_slice sl_tupA (pv 3) (po_some (pe_op op_add (pe_ix ix_tup (pv 1) pe_int (fun _ _ => rfl)) (pe_callTy call_int1 (by rfl) T.z_int (by decide +kernel) (pa_cons (pe_cmpR op_eq (pe_ix ix_tup (pv 1) pe_int (fun _ _ => rfl)) pe_str (nomark _)) pa_nil)))) po_none)) pa_nil))))))))
, ?_⟩
    refine ⟨_, rfl, pa, _, rfl, hpa, rfl, _, _, rfl, _, _, rfl, rfl, ?_⟩
    cases z with
    | put i k =>
      obtain ⟨a, rfl, ha⟩ := dp_stp3 hs
      obtain ⟨ok1, ok2⟩ := ok
      refine ⟨_, rfl, a, _, 0, _, rfl, rfl, ha, atI_nat (j := 0) rfl, rfl, _, rfl, ifW_f (by decide +kernel) ?_⟩
      refine ⟨_, rfl, a, _, 0, _, rfl, rfl, ha, atI_nat (j := 0) rfl, rfl, _, rfl, ifW_f (by decide +kernel) ?_⟩
      refine ⟨_, rfl, _, rfl, _, rfl, a, _, 1, _, rfl, rfl, ha, atI_nat (j := 1) rfl, _, rfl, ?_⟩
      refine sl_takeV (n := i) hra (by rw [l1']; omega) fun t1 H1 s1 ht1 => ?_
      refine ⟨_, rfl, a, _, 2, _, rfl, rfl, same_tup s1 ha, atI_nat (j := 2) rfl, ?_⟩
      refine ⟨by show 1 ≤ sizeLine; decide, fun t2 h_t2 => ?_⟩
      have s_t2 := same_new (o := .tup [V.int (k : Nat)]) h_t2
      have t_t2 : SqT K (upd H1 t2 (.tup [V.int (k : Nat)])) t2 [V.int (k : Nat)] := upd_tup
      generalize upd H1 t2 (.tup [V.int (k : Nat)]) = H2 at s_t2 t_t2
      clear h_t2
      refine cat_any (same_tup s_t2 ht1) t_t2 (sz_line (by simp [rowV]; omega)) fun t3 H3 s3 ht3 => ?_
      have s03 := (s1.trans s_t2).trans s3
      have ha3 := same_tup s03 ha
      refine ⟨_, rfl, _, rfl, a, _, 1, _, rfl, rfl, ha3, atI_nat (j := 1) rfl, _, rfl, a, _, 0, _, rfl, rfl, ha3, atI_nat (j := 0) rfl, rfl, .inr ⟨_, rfl, _, _, rfl, rfl, ((i : Nat) : Int), wordI_f (by decide +kernel), ?_⟩⟩
      dsimp only [tNoPart]
      refine sl_dropV (n := i) (same_tup s03 hra) (by rw [l1']; omega) fun t4 H4 s4 ht4 => ?_
      refine cat_any (same_tup s4 ht3) ht4 (sz_line (by simp [rowV]; omega)) fun t5 H5 s5 ht5 => ?_
      have s05 := (s03.trans s4).trans s5
      refine ⟨by show 2 ≤ sizeLine; decide, fun t6 h_t6 => ?_⟩
      have s_t6 := same_new (o := .tup [x1, V.ref t5]) h_t6
      have t_t6 : SqT K (upd H5 t6 (.tup [x1, V.ref t5])) t6 [x1, V.ref t5] := upd_tup
      generalize upd H5 t6 (.tup [x1, V.ref t5]) = H6 at s_t6 t_t6
      clear h_t6
      have e1 : (rowV row).take i ++ [V.int (k : Nat)] ++ (rowV row).drop (i) = rowV (row.take i ++ [k] ++ row.drop (i)) := by
        unfold rowV
        rw [List.map_append, List.map_append, List.map_take, List.map_drop]
        rfl
      rw [e1] at ht5
      exact q _ _ (s05.trans s_t6) (.tup t_t6 (.cons (dp_same (s05.trans s_t6) _ _ h1) (.cons (dp_row (same_tup s_t6 ht5)) .nil)))
    | set i k =>
      obtain ⟨a, rfl, ha⟩ := dp_stp3 hs
      obtain ⟨ok1, ok2⟩ := ok
      refine ⟨_, rfl, a, _, 0, _, rfl, rfl, ha, atI_nat (j := 0) rfl, rfl, _, rfl, ifW_f (by decide +kernel) ?_⟩
      refine ⟨_, rfl, a, _, 0, _, rfl, rfl, ha, atI_nat (j := 0) rfl, rfl, _, rfl, ifW_f (by decide +kernel) ?_⟩
      refine ⟨_, rfl, _, rfl, _, rfl, a, _, 1, _, rfl, rfl, ha, atI_nat (j := 1) rfl, _, rfl, ?_⟩
      refine sl_takeV (n := i) hra (by rw [l1']; omega) fun t1 H1 s1 ht1 => ?_
      refine ⟨_, rfl, a, _, 2, _, rfl, rfl, same_tup s1 ha, atI_nat (j := 2) rfl, ?_⟩
      refine ⟨by show 1 ≤ sizeLine; decide, fun t2 h_t2 => ?_⟩
      have s_t2 := same_new (o := .tup [V.int (k : Nat)]) h_t2
      have t_t2 : SqT K (upd H1 t2 (.tup [V.int (k : Nat)])) t2 [V.int (k : Nat)] := upd_tup
      generalize upd H1 t2 (.tup [V.int (k : Nat)]) = H2 at s_t2 t_t2
      clear h_t2
      refine cat_any (same_tup s_t2 ht1) t_t2 (sz_line (by simp [rowV]; omega)) fun t3 H3 s3 ht3 => ?_
      have s03 := (s1.trans s_t2).trans s3
      have ha3 := same_tup s03 ha
      refine ⟨_, rfl, _, rfl, a, _, 1, _, rfl, rfl, ha3, atI_nat (j := 1) rfl, _, rfl, a, _, 0, _, rfl, rfl, ha3, atI_nat (j := 0) rfl, rfl, .inr ⟨_, rfl, _, _, rfl, rfl, ((i + 1 : Nat) : Int), wordI_t, ?_⟩⟩
      dsimp only [tNoPart]
      refine sl_dropV (n := i + 1) (same_tup s03 hra) (by rw [l1']; omega) fun t4 H4 s4 ht4 => ?_
      refine cat_any (same_tup s4 ht3) ht4 (sz_line (by simp [rowV]; omega)) fun t5 H5 s5 ht5 => ?_
      have s05 := (s03.trans s4).trans s5
      refine ⟨by show 2 ≤ sizeLine; decide, fun t6 h_t6 => ?_⟩
      have s_t6 := same_new (o := .tup [x1, V.ref t5]) h_t6
      have t_t6 : SqT K (upd H5 t6 (.tup [x1, V.ref t5])) t6 [x1, V.ref t5] := upd_tup
      generalize upd H5 t6 (.tup [x1, V.ref t5]) = H6 at s_t6 t_t6
      clear h_t6
      have e1 : (rowV row).take i ++ [V.int (k : Nat)] ++ (rowV row).drop (i + 1) = rowV (row.take i ++ [k] ++ row.drop (i + 1)) := by
        unfold rowV
        rw [List.map_append, List.map_append, List.map_take, List.map_drop]
        rfl
      rw [e1] at ht5
      exact q _ _ (s05.trans s_t6) (.tup t_t6 (.cons (dp_same (s05.trans s_t6) _ _ h1) (.cons (dp_row (same_tup s_t6 ht5)) .nil)))
    | cut b e =>
      obtain ⟨a, rfl, ha⟩ := dp_stp3 hs
      obtain ⟨ok1, ok2⟩ := ok
      refine ⟨_, rfl, a, _, 0, _, rfl, rfl, ha, atI_nat (j := 0) rfl, rfl, _, rfl, ifW_f (by decide +kernel) ?_⟩
      refine ⟨_, rfl, a, _, 0, _, rfl, rfl, ha, atI_nat (j := 0) rfl, rfl, _, rfl, ifW_t ?_⟩
      refine ⟨_, rfl, _, rfl, _, rfl, a, _, 1, _, rfl, rfl, ha, atI_nat (j := 1) rfl, _, rfl, ?_⟩
      refine sl_takeV (n := b) hra (by rw [l1']; omega) fun t1 H1 s1 ht1 => ?_
      refine ⟨_, rfl, _, rfl, a, _, 2, _, rfl, rfl, same_tup s1 ha, atI_nat (j := 2) rfl, _, rfl, ?_⟩
      dsimp only [tNoPart]
      refine sl_dropV (n := e) (same_tup s1 hra) (by rw [l1']; omega) fun t4 H4 s4 ht4 => ?_
      refine cat_any (same_tup s4 ht1) ht4 (sz_line (by simp [rowV]; omega)) fun t5 H5 s5 ht5 => ?_
      have s05 := (s1.trans s4).trans s5
      refine ⟨by show 2 ≤ sizeLine; decide, fun t6 h_t6 => ?_⟩
      have s_t6 := same_new (o := .tup [x1, V.ref t5]) h_t6
      have t_t6 : SqT K (upd H5 t6 (.tup [x1, V.ref t5])) t6 [x1, V.ref t5] := upd_tup
      generalize upd H5 t6 (.tup [x1, V.ref t5]) = H6 at s_t6 t_t6
      clear h_t6
      have e1 : (rowV row).take b ++ (rowV row).drop e = rowV (row.take b ++ row.drop e) := by
        unfold rowV
        rw [List.map_append, List.map_take, List.map_drop]
      rw [e1] at ht5
      exact q _ _ (s05.trans s_t6) (.tup t_t6 (.cons (dp_same (s05.trans s_t6) _ _ h1) (.cons (dp_row (same_tup s_t6 ht5)) .nil)))
    | frm z =>
      obtain ⟨a, v, rfl, ha, hv⟩ := dp_stp2 hs
      refine ⟨_, rfl, a, _, 0, _, rfl, rfl, ha, atI_nat (j := 0) rfl, rfl, _, rfl, ifW_t ?_⟩
      refine ⟨_, rfl, a, _, 1, _, rfl, rfl, ha, atI_nat (j := 1) rfl, _, rfl, ?_⟩
      refine ⟨by show 2 ≤ sizeLine; decide, fun t6 h_t6 => ?_⟩
      have s_t6 := same_new (o := .tup [v, V.ref ra]) h_t6
      have t_t6 : SqT K (upd H t6 (.tup [v, V.ref ra])) t6 [v, V.ref ra] := upd_tup
      generalize upd H t6 (.tup [v, V.ref ra]) = H6 at s_t6 t_t6
      clear h_t6
      exact q _ _ s_t6 (.tup t_t6 (.cons (dp_same s_t6 _ _ hv) (.cons (dp_row (same_tup s_t6 hra)) .nil)))
def sp_law_sound (T : Txt K mg) : Sp := fun vs H Q _ => ∃ (cv pv : V) (C : Cod) (row : List Nat) (st : Int × Int), vs = [cv, pv] ∧ C.Ok ∧ Dp K H cv C.dat ∧ Dp K H pv (pairD2 st row) ∧ C.Row row ∧ C.St st ∧ ∀ t H', Same H H' → SqT K H' t ((C.lev st row).map V.int) → Q (.ref t) H'
set_option maxHeartbeats 1000000 in
theorem ok_law_sound (T : Txt K mg) : FnOk P w K mg base CX0 8 T.f__law_sound T.d__law_sound ["coder", "pair"] (sp_law_sound T) := by
  refine T.F__law_sound.ok sc_law_sound (fun vs H Q E h => ?_) (fun cdv A outer s H vs Q E hr h => ?_)
  · obtain ⟨cv, pv, C, row, st, rfl, _⟩ := h
    rfl
  · obtain ⟨cv, pv, C, row, st, rfl, O, hcv, hpv, R, S, q⟩ := h
    obtain ⟨pa, xs, rfl, hpa, hpd⟩ := dp_tup hpv
    obtain ⟨x1, x2, rfl, h1, h2⟩ := dpAll2 hpd
    refine ⟨_,
(pss_one (ps_ret (pe_callTy call_tuple_of (by rfl) T.z_tuple (by decide +kernel) (pa_cons (pe_lc (own := [("spot", 2)]) rfl sc_law_sound.nd (pi_list (pe_slice sl_list (pe_call (ok_law_walked T) (hr.mono (by decide)) (by rfl) T.g__law_walked T.F__law_walked.kp T.b__law_walked .nil pass0 (pa_cons (pv 0) (pa_cons (pe_ix ix_tup (pv 1) pe_int (fun _ _ => rfl)) (pa_cons (pe_ix ix_tup (pv 1) pe_int (fun _ _ => rfl)) pa_nil)))) (po_some pe_int) po_none)) (blkOk_by (own := [("spot", 2)]) (N := ["coder", "pair", "spot"]) (sc := defScope s_law_sound) (by decide +kernel)) (fun _ _ _ _ _ => (pg_name (i := 2) sc_law_sound.nd rfl (Or.inl rfl))) (fun _ _ _ _ _ => pts_nil) (fun _ _ _ _ _ => (pe_ix (My.ix_tupK (K := K)) (pv 2) pe_int (fun _ _ => rfl)))) pa_nil))))
, ?_⟩
    refine ⟨_, rfl, _, rfl, pa, _, 0, _, rfl, rfl, hpa, atI_nat (j := 0) rfl, _, rfl, pa, _, 1, _, rfl, rfl, hpa, atI_nat (j := 1) rfl, cv, x1, x2, C, row, st, rfl, O, hcv, h2, R, h1, S, fun pp ys H1 s1 _ hpp hpd => ?_⟩
    have hxl : ys.length = row.length + 1 := by rw [dpAll_len hpd, List.length_map, path_len]
    refine ⟨1, rfl, ?_⟩
    refine ⟨pp, ys, rfl, SqL.of hpp, fun L2 hL2 => ?_⟩
    have s8 := same_new (o := .lst (cutV ys (some 1) none)) hL2
    have hL8 : (upd H1 L2 (.lst (cutV ys (some 1) none))) L2 = some (.lst (ys.drop 1)) := by
      rw [upd_same, show cutV ys (some 1) none = ys.drop 1 from cut_drop (n := 1) (by omega)]
    generalize upd H1 L2 (.lst (cutV ys (some 1) none)) = H6 at s8 hL8
    have hpd6 := dpAll_same s8 _ _ hpd
    have hdl : (ys.drop 1).length = row.length := by rw [List.length_drop]; omega
    have hll := lev_len (C := C) row st
    refine ⟨L2, rfl, ⟨_, SqL.of hL8⟩, fun NW hNW => ?_⟩
    refine lc_list (K := K) (a := L2) (xs := ys.drop 1) (fun j H' => H' NW = some (.lst (((C.lev st row).take j).map V.int)) ∧ Same H6 H') ⟨upd_same, same_new hNW⟩ ?_ ?_ ?_
    · rintro j H' _ ⟨_, sy⟩
      exact sy.seq (SqL.of hL8)
    · rintro j v H' hj ⟨hD, sy⟩
      obtain ⟨qa, z, rfl, hq, hz⟩ := lv_atD (dpAll_same sy _ _ hpd6) hj
      refine ⟨rfl, yes_anyD ?_⟩
      refine ⟨_, rfl, qa, _, 0, _, rfl, rfl, hq, atI_nat (j := 0) rfl, _, hD, ?_, ?_, same_put sy hNW⟩
      · have := R.len
        exact Nat.lt_of_le_of_lt (show _ ≤ 4096 by rw [List.length_map, List.length_take]; omega) (by decide)
      · rw [upd_same, List.take_add_one, hz, List.map_append]
        rfl
    rintro H7 ⟨hNW7, s67⟩
    rw [hdl, List.take_of_length_le (by omega)] at hNW7
    refine ⟨NW, _, rfl, .inl ⟨SqL.of hNW7, fun tt htt => ?_⟩⟩
    exact q tt _ (((s1.trans s8).trans s67).trans (same_new htt)) upd_tup
end
end My

set_option pp.maxSteps 600
/-! what stands in the laws of desks -/
namespace My
open PySem PySem.Spec PyProof.Rows L2
def NQ (m c l d : Addr) : Prop := d ≠ m ∧ d ≠ c ∧ d ≠ l
theorem NQ.kp {m c l l' d : Addr} {H H' : Hp} {o : HO} (n : NQ m c l d) (k : Kp m l H l' H') (h : H d = some o) : NQ m c l' d := ⟨n.1, n.2.1, k.off h n.2.2⟩
theorem NQ.new {m c l n d : Addr} {H : Hp} (D : Dr H m c l n) (h : H d = none) : NQ m c l d := by
  obtain ⟨cs, ls, z, e1, e2, e3, _⟩ := D.ex
  exact ⟨(ne_of_none e1 h).symm, (ne_of_none e2 h).symm, (ne_of_none e3 h).symm⟩
/-- numbers of a step that can be written -/
def Stp.Sm : Stp → Prop
  | .put i k => i ≤ 100000 ∧ k ≤ 100000
  | .set i k => i ≤ 100000 ∧ k ≤ 100000
  | .cut b e => b ≤ 100000 ∧ e ≤ 100000
  | .frm s => s.1.natAbs ≤ 100000 ∧ s.2.natAbs ≤ 100000
theorem stp_sm {C : Cod} {row : List Nat} {s : Stp} (O : C.Ok) (h : s.Ok C row) (hl : row.length ≤ 2000) : s.Sm := by
  have := O.m2
  cases s with
  | put i k => obtain ⟨h1, h2⟩ := h; exact ⟨by omega, by omega⟩
  | set i k => obtain ⟨h1, h2⟩ := h; exact ⟨by omega, by omega⟩
  | cut b e => obtain ⟨h1, h2⟩ := h; exact ⟨by omega, by omega⟩
  | frm s =>
    obtain ⟨a, b, c, d⟩ := (show C.St s from h)
    have h1 := O.l1
    have h2 := O.h2
    have h3 := O.s2
    exact ⟨by omega, by omega⟩
theorem sh_word {t : Str} (h1 : (PyData.str t).showable = true) (h2 : (PyData.str t).shown.length ≤ 2000) : Sh 0 2000 (.str t) := ⟨h1, rfl, Nat.le_refl _, h2⟩
theorem sh_num {i : Nat} (h : i ≤ 100000) : Sh 0 2000 (.int (i : Nat)) := sh_i (by omega)
theorem sh_t3 {t : Str} {i k : Nat} (h1 : (PyData.str t).showable = true) (h2 : (PyData.str t).shown.length ≤ 2000) (hi : i ≤ 100000) (hk : k ≤ 100000) : Sh 2 12100 (.tuple [.str t, .int (i : Nat), .int (k : Nat)]) :=
  (sh_t (ds := [.str t, .int (i : Nat), .int (k : Nat)]) (Nat.le_refl 3) (all1 (sh_word h1 h2) (all1 (sh_num hi) (all1 (sh_num hk) all0)))).mono (by decide) (by decide)
theorem sh_stp {s : Stp} (h : s.Sm) : Sh 2 12100 s.dat := by
  cases s with
  | put i k => exact sh_t3 (by decide +kernel) (by decide +kernel) h.1 h.2
  | set i k => exact sh_t3 (by decide +kernel) (by decide +kernel) h.1 h.2
  | cut b e => exact sh_t3 (by decide +kernel) (by decide +kernel) h.1 h.2
  | frm s =>
    have p : Sh 1 4000 (pairI s) := sh_pair (by have := h.1; omega) (by have := h.2; omega)
    exact (sh_t (k := 1) (n := 4000) (ds := [.str "from", pairI s]) (show 2 ≤ 3 by decide) (all1 ((sh_word (by decide +kernel) (by decide +kernel)).mono (by decide) (by decide)) (all1 p all0))).mono (by decide) (by decide)
theorem sh_stps {dn : List (Stp × Edt)} (h : ∀ y ∈ dn, y.1.Sm) (hl : dn.length ≤ 100) : Sh 3 1300000 (.list (dn.map fun y => y.1.dat)) := by
  refine (sh_list (k := 2) (n := 12100) fun d hd => ?_).mono (Nat.le_refl _) (by rw [List.length_map]; omega)
  obtain ⟨y, hy, rfl⟩ := List.mem_map.mp hd
  exact sh_stp (h y hy)
theorem sz_line2 {n : Nat} (h : n ≤ 16000000) : n ≤ sizeLine := Nat.le_trans h (by decide)
theorem sh_small {i : Int} (h : i.natAbs < 10 ^ 6) : Sh 0 7 (.int i) := by
  obtain ⟨a, b, c, _⟩ := sh_int (i := i) (by omega)
  exact ⟨a, b, c, by
    show (PySem.Str.ofString (toString i)).length ≤ 7
    rw [PySem.ofString_length]
    exact PySem.int_text_length_le10 (k := 6) (by decide) h⟩
theorem sh_smalls {ns : List Int} (h : ∀ z ∈ ns, z.natAbs < 10 ^ 6) : Sh 1 (ns.length * 9 + 3) (.tuple (ns.map .int)) := by
  have := sh_tup (k := 0) (n := 7) (ds := ns.map .int) fun d hd => by
    obtain ⟨z, hz, rfl⟩ := List.mem_map.mp hd
    exact sh_small (h z hz)
  rw [List.length_map] at this
  exact this
theorem sh_levD {C : Cod} (O : C.Ok) {row : List Nat} {st : Int × Int} (h : row.length ≤ 2000) : Sh 3 1300000 (intsD (C.lev st row)) := by
  have h1 := O.l1
  have h2 := O.h2
  exact (sh_smalls fun z hz => by
    have := lev_in O row st z hz
    omega).mono (by decide) (by rw [lev_len]; omega)
theorem sh_rowD {C : Cod} (O : C.Ok) {row : List Nat} (R : C.Row row) (h : row.length ≤ 2000) : Sh 3 1300000 (rowI row) := by
  have h3 := O.m2
  have := sh_smalls (ns := row.map fun k : Nat => (k : Int)) fun z hz => by
    obtain ⟨k, hk, rfl⟩ := List.mem_map.mp hz
    have := R.lt k hk
    show Int.natAbs (k : Int) < 10 ^ 6
    omega
  rw [List.map_map, List.length_map] at this
  exact this.mono (by decide) (by omega)
theorem sh_stD {C : Cod} (O : C.Ok) {s : Int × Int} (h : C.St s) : Sh 3 1300000 (pairI s) := by
  obtain ⟨a, b, c, d⟩ := h
  have h1 := O.l1
  have h2 := O.h2
  have h3 := O.s2
  exact (sh_pair (by omega) (by omega)).mono (by decide) (by decide)
/-- what _law_stands tells -/
def toldK (C : Cod) (row : List Nat) (st : Int × Int) (dn : List (Stp × Edt)) (n : Nat) : PyData := .list [C.dat, pairI st, rowI row, intsD (C.lev st row), .list (dn.map fun y => y.1.dat), .int (dn.length : Nat), .int (n : Nat)]
theorem sh_toldK {C : Cod} (O : C.Ok) {row : List Nat} {st : Int × Int} {dn : List (Stp × Edt)} {n : Nat} (R : C.Row row) (hs : C.St st) (h : row.length ≤ 2000) (hn : n ≤ 100000) (sm : ∀ y ∈ dn, y.1.Sm) (hd : dn.length ≤ 100) : Sh 4 9100100 (toldK C row st dn n) := by
  refine (sh_list (k := 3) (n := 1300000) (ds := [C.dat, pairI st, rowI row, intsD (C.lev st row), .list (dn.map fun y => y.1.dat), .int (dn.length : Nat), .int (n : Nat)]) ?_).mono (Nat.le_refl _) (show 7 * (1300000 + 2) + 2 ≤ 9100100 by decide)
  exact all1 ((sh_cod O).mono (by decide) (by decide)) (all1 (sh_stD O hs) (all1 (sh_rowD O R h) (all1 (sh_levD O h) (all1 (sh_stps sm hd) (all1 ((sh_int (by omega)).mono (by decide) (by decide)) (all1 ((sh_int (by omega)).mono (by decide) (by decide)) all0))))))
section
variable {P : Program} {w : World} {K : PySem.W.Frag} {mg : Str → Option Value} {base : Heap}
theorem DkS.kp {T : Txt K mg} {H H' : Hp} {m c l l' k p f d u : Addr} {C : Cod} {row0 row : List Nat} {st0 st : Int × Int} {dn un : List (Stp × Edt)} {n : Nat} (h : DkS T H p f d u C row0 st0 row st dn un n) (kp : Kp m l H l' H') (D : Dr H m c l k) (nd : NQ m c l d) (nu : NQ m c l u) : DkS T H' p f d u C row0 st0 row st dn un n := by
  obtain ⟨dx, r, x, h1, h2, h3⟩ := h.ob
  obtain ⟨dxf, c0, r0, x0, hf, f1, f2, f3⟩ := h.fc.ex
  obtain ⟨xs, d1, d2⟩ := h.dl
  obtain ⟨ys, u1, u2⟩ := h.ul
  obtain ⟨cs, ls, z, e1, e2, e3, _⟩ := D.ex
  have kk := keep_draw kp D
  exact ⟨⟨dx, r, x, kp.st _ _ h1 (fun e => by rw [e, e1] at h1; cases h1) (fun e => by rw [e, e3] at h1; cases h1), dp_keep kk _ _ (noL_row _) h2, dp_keep kk _ _ (noL_pair _) h3⟩,
    ⟨⟨dxf, c0, r0, x0, kp.st _ _ hf (fun e => by rw [e, e1] at hf; cases hf) (fun e => by rw [e, e3] at hf; cases hf), dp_keep kk _ _ (noL_cod _) f1, dp_keep kk _ _ (noL_row _) f2, dp_keep kk _ _ (noL_pair _) f3⟩, h.fc.O, h.fc.R, h.fc.St⟩,
    ⟨xs, kp.st _ _ d1 nd.1 nd.2.2, dpAll_keep kk _ _ (noL_ses _) d2⟩, ⟨ys, kp.st _ _ u1 nu.1 nu.2.2, dpAll_keep kk _ _ (noL_ses _) u2⟩, h.du, h.R, h.St⟩
theorem DkF.keep {p d u C dx : Addr} {H H' : Hp} {fs : List (Str × V)} {xs ys : List V} (F : DkF p d u H H') (hp : H p = some (.ins C dx fs)) (hd : H d = some (.lst xs)) (hu : H u = some (.lst ys)) : Keep H H' := fun b o h t => F.st b o h (fun e => by rw [e, hp] at h; cases h; cases t) (fun e => by rw [e, hd] at h; cases h; cases t) (fun e => by rw [e, hu] at h; cases h; cases t)
theorem dr_dkf {p d u C dx m c l n : Addr} {H H' : Hp} {fs : List (Str × V)} (D : Dr H m c l n) (F : DkF p d u H H') (hp : H p = some (.ins C dx fs)) (nd : NQ m c l d) (nu : NQ m c l u) : Dr H' m c l n := by
  obtain ⟨cs, ls, z, e1, e2, e3, r⟩ := D.ex
  exact ⟨cs, ls, z, F.st _ _ e1 (fun e => by rw [e, hp] at e1; cases e1) nd.1.symm nu.1.symm, F.st _ _ e2 (fun e => by rw [e, hp] at e2; cases e2) nd.2.1.symm nu.2.1.symm, F.st _ _ e3 (fun e => by rw [e, hp] at e3; cases e3) nd.2.2.symm nu.2.2.symm, r⟩
/-- a list of the law's own, beside a desk's two -/
structure Lq (K : PySem.W.Frag) (H : Hp) (m c l d u S : Addr) (ss : List V) (ds : List PyData) : Prop where
  h : H S = some (.lst ss)
  da : DpAll K H ss ds
  nl : noLs ds = true
  nq : NQ m c l S
  nd : S ≠ d
  nu : S ≠ u
theorem Lq.same {H H' : Hp} {m c l d u S : Addr} {ss : List V} {ds : List PyData} (q : Lq K H m c l d u S ss ds) (s : Same H H') : Lq K H' m c l d u S ss ds := ⟨s _ _ q.h, dpAll_same s _ _ q.da, q.nl, q.nq, q.nd, q.nu⟩
theorem Lq.draw {H H' : Hp} {m c l l' n d u S : Addr} {ss : List V} {ds : List PyData} (q : Lq K H m c l d u S ss ds) (k : Kp m l H l' H') (D : Dr H m c l n) : Lq K H' m c l' d u S ss ds := ⟨k.st _ _ q.h q.nq.1 q.nq.2.2, dpAll_keep (keep_draw k D) _ _ q.nl q.da, q.nl, q.nq.kp k q.h, q.nd, q.nu⟩
theorem Lq.dkf {H H' : Hp} {m c l p d u u' S C dx : Addr} {fs : List (Str × V)} {xs ys ss : List V} {ds : List PyData} (q : Lq K H m c l d u S ss ds) (F : DkF p d u H H') (hp : H p = some (.ins C dx fs)) (hd : H d = some (.lst xs)) (hu : H u = some (.lst ys)) (hu' : u' = u ∨ H u' = none) : Lq K H' m c l d u' S ss ds :=
  ⟨F.st _ _ q.h (fun e => by have := q.h; rw [e, hp] at this; cases this) q.nd q.nu, dpAll_keep (F.keep hp hd hu) _ _ q.nl q.da, q.nl, q.nq, q.nd, by
    rcases hu' with rfl | h
    · exact q.nu
    · exact ne_of_none q.h h⟩
def sp_law_stands (T : Txt K mg) : Sp := fun vs H Q _ => ∃ (p f d u S : Addr) (cv pr : V) (C : Cod) (row0 row : List Nat) (st0 st : Int × Int) (dn un : List (Stp × Edt)) (n : Nat) (ss : List V), vs = [.ref p, cv, pr, .ref S, .int (n : Nat)] ∧ DkS T H p f d u C row0 st0 row st dn un n ∧
  Dp K H cv C.dat ∧ Dp K H pr (pairD2 st row) ∧ H S = some (.lst ss) ∧ DpAll K H ss (dn.map fun y => y.1.dat) ∧ row.length ≤ 2000 ∧ dn.length ≤ 100 ∧ n ≤ 100000 ∧ (∀ y ∈ dn, y.1.Sm) ∧ ∀ H', Same H H' → Q (.bl true) H'
set_option maxHeartbeats 2000000 in
theorem ok_law_stands (T : Txt K mg) : FnG P w K mg base 12 T.f__law_stands T.d__law_stands ["desk", "coder", "pair", "steps", "tries"] (sp_law_stands T) := by
  refine okG T.F__law_stands sc_law_stands (fun vs H Q E h => ?_) (fun cdv A outer s H vs Q E hgd hr h => ?_)
  · obtain ⟨p, f, d, u, S, cv, pr, C, row0, row, st0, st, dn, un, n, ss, rfl, _⟩ := h
    rfl
  · obtain ⟨p, f, d, u, S, cv, pr, C, row0, row, st0, st, dn, un, n, ss, rfl, hD, hcv, hpv, hS, hss, hl, hdl, hn, sm, q⟩ := h
    have O := hD.fc.O
    refine ⟨_,
(pss_cons (ps_set (i := 5) sc_law_stands.nd rfl (Or.inl rfl) (pe_meth0 (pv 0) T.cl_Desk T.me_Desk_clip (ok_Desk_clip T) (hr.mono (by decide)) T.b_Desk_clip .nil pass0))
      (pss_cons (ps_set (i := 6) sc_law_stands.nd rfl (Or.inl rfl) (pe_lst (pa_cons (pe_prop (pv 5) T.cl_Clip T.po_Clip_coder (ok_Clip_coder T) (hr.mono (by decide)) T.b_Clip_coder .nil pass0 rfl) (pa_cons (pe_prop (pv 5) T.cl_Clip T.po_Clip_state (ok_Clip_state T) (hr.mono (by decide)) T.b_Clip_state .nil pass0 rfl) (pa_cons (pe_prop (pv 5) T.cl_Clip T.po_Clip_codes (ok_Clip_codes T) (hr.mono (by decide)) T.b_Clip_codes .nil pass0 rfl) (pa_cons (pe_meth0 (pv 0) T.cl_Desk T.me_Desk_heard (ok_Desk_heard T) (hr.mono (by decide)) T.b_Desk_heard .nil pass0) (pa_cons (pe_meth0 (pv 0) T.cl_Desk T.me_Desk_steps (ok_Desk_steps T) (hr.mono (by decide)) T.b_Desk_steps .nil pass0) (pa_cons (pe_callB (My.call_lenI T.at_Desk_len T.fn_Desk_len ((ok_Desk_len T).raw T.b_Desk_len .nil) (hr.mono (by decide)) pass0) (by rfl) T.z_len (by decide +kernel) (pa_cons (pv 0) pa_nil)) (pa_cons (pe_meth0 (pv 0) T.cl_Desk T.me_Desk_tries (ok_Desk_tries T) (hr.mono (by decide)) T.b_Desk_tries .nil pass0) pa_nil)))))))))
      (pss_one (ps_ret (pe_cmpR op_eq (pe_callB ((call_repr hgd hr.units)) (by rfl) T.z_repr (by decide +kernel) (pa_cons (pv 6) pa_nil)) (pe_callB ((call_repr hgd hr.units)) (by rfl) T.z_repr (by decide +kernel) (pa_cons (pe_lst (pa_cons (pv 1) (pa_cons (pe_ix ix_tup (pv 2) pe_int (fun _ _ => rfl)) (pa_cons (pe_ix ix_tup (pv 2) pe_int (fun _ _ => rfl)) (pa_cons (pe_call (ok_law_sound T) (hr.mono (by decide)) (by rfl) T.g__law_sound T.F__law_sound.kp T.b__law_sound .nil pass0 (pa_cons (pv 1) (pa_cons (pv 2) pa_nil))) (pa_cons (pv 3) (pa_cons (pe_callB (call_len_seq) (by rfl) T.z_len (by decide +kernel) (pa_cons (pv 3) pa_nil)) (pa_cons (pv 4) pa_nil)))))))) pa_nil)) (nomark _))))))
, ?_⟩
    obtain ⟨dx, r, x, hp, hrow, hx⟩ := hD.ob
    refine ⟨_, rfl, p, dx, _, rfl, hp, rfl, p, f, d, u, C, row0, row, st0, st, dn, un, n, rfl, hD, fun y H1 s1 _ hcl => ?_⟩
    obtain ⟨dy, c1, r1, x1, hy, hc1, hr1, hx1⟩ := hcl.ex
    have hD1 := hD.same s1
    have hp1 := s1 _ _ hp
    refine ⟨_, rfl, y, dy, _, rfl, hy, y, dy, c1, r1, x1, rfl, hy, _, rfl, y, dy, _, rfl, hy, y, dy, c1, r1, x1, rfl, hy, _, rfl, y, dy, _, rfl, hy, y, dy, c1, r1, x1, rfl, hy, ?_⟩
    refine ⟨_, rfl, p, dx, _, rfl, hp1, rfl, p, f, d, u, C, row0, row, st0, st, dn, un, n, rfl, hD1, fun t H2 s2 ht => ?_⟩
    have s12 := s1.trans s2
    obtain ⟨xs, hd, hxs⟩ := (hD.same s12).dl
    have lxs : xs.length = dn.length := by rw [dpAll_len hxs, List.length_map]
    refine ⟨_, rfl, p, dx, _, rfl, s12 _ _ hp, rfl, p, dx, d, .ref f, r, x, .ref u, n, dn, xs, rfl, s12 _ _ hp, hd, hxs, by omega, fun L zs H3 s3 _ hL hzs => ?_⟩
    have s13 := s12.trans s3
    refine ⟨_, rfl, p, dx, _, rfl, s13 _ _ hp, p, dx, d, .ref f, r, x, .ref u, n, xs, rfl, s13 _ _ hp, s3 _ _ hd, _, rfl, by omega, by omega, ?_⟩
    refine ⟨_, rfl, p, dx, _, rfl, s13 _ _ hp, rfl, p, dx, .ref f, r, x, .ref d, .ref u, n, rfl, s13 _ _ hp, ?_⟩
    refine ⟨by show 7 ≤ sizeLine; decide, fun A7 hA7 => ?_⟩
    have s4 := same_new (o := .lst [c1, x1, r1, V.ref t, V.ref L, V.int (xs.length : Nat), V.int (n : Nat)]) hA7
    have s24 := (s2.trans s3).trans s4
    have hD4 : Dp K (upd H3 A7 (.lst [c1, x1, r1, V.ref t, V.ref L, V.int (xs.length : Nat), V.int (n : Nat)])) (.ref A7) (toldK C row st dn n) :=
      .lst (SqL.of upd_same) (.cons (dp_same s24 _ _ hc1) (.cons (dp_same s24 _ _ hx1) (.cons (dp_same s24 _ _ hr1) (.cons (.tup (same_tup (s3.trans s4) ht) (dp_ints _)) (.cons (.lst (SqL.of (s4 _ _ hL)) (dpAll_same s4 _ _ hzs)) (.cons (by rw [lxs]; exact .int _) (.cons (.int _) .nil)))))))
    have s14 := s13.trans s4
    generalize upd H3 A7 (.lst [c1, x1, r1, V.ref t, V.ref L, V.int (xs.length : Nat), V.int (n : Nat)]) = H4 at hD4 s14
    have sht := sh_toldK (C := C) (row := row) (st := st) (dn := dn) (n := n) O hD.R hD.St hl hn sm hdl
    obtain ⟨pa, pxs, rfl, hpa, hpd⟩ := dp_tup (dp_same s14 _ _ hpv)
    obtain ⟨q1, q2, rfl, hq1, hq2⟩ := dpAll2 hpd
    refine ⟨_, rfl, _, _, rfl, hD4, sht.sh, sht.nd, Nat.le_trans sht.dp (by decide), sz_line2 (Nat.le_trans sht.le (by decide)), _, rfl, _, rfl, pa, _, 0, _, rfl, rfl, hpa, atI_nat (j := 0) rfl, _, rfl, pa, _, 1, _, rfl, rfl, hpa, atI_nat (j := 1) rfl, ?_⟩
    refine ⟨_, rfl, _, rfl, cv, .ref pa, C, row, st, rfl, O, dp_same s14 _ _ hcv, dp_same s14 _ _ hpv, hD.R, hD.St, fun t2 H5 s5 ht2 => ?_⟩
    have s15 := s14.trans s5
    refine ⟨_, rfl, _, rfl, S, ss, rfl, .inl (SqL.of (s15 _ _ hS)), _, rfl, by show 7 ≤ sizeLine; decide, fun B7 hB7 => ?_⟩
    have s6 := same_new (o := .lst [cv, q1, q2, V.ref t2, V.ref S, V.int (ss.length : Nat), V.int (n : Nat)]) hB7
    have lss : ss.length = dn.length := by rw [dpAll_len hss, List.length_map]
    have s56 := s5.trans s6
    have s16 := s15.trans s6
    have hD6 : Dp K (upd H5 B7 (.lst [cv, q1, q2, V.ref t2, V.ref S, V.int (ss.length : Nat), V.int (n : Nat)])) (.ref B7) (toldK C row st dn n) :=
      .lst (SqL.of upd_same) (.cons (dp_same s16 _ _ hcv) (.cons (dp_same s56 _ _ hq1) (.cons (dp_same s56 _ _ hq2) (.cons (.tup (same_tup s6 ht2) (dp_ints _)) (.cons (.lst (SqL.of (s16 _ _ hS)) (dpAll_same s16 _ _ hss)) (.cons (by rw [lss]; exact .int _) (.cons (.int _) .nil)))))))
    refine ⟨_, _, rfl, hD6, sht.sh, sht.nd, Nat.le_trans sht.dp (by decide), sz_line2 (Nat.le_trans sht.le (by decide)), ?_⟩
    exact eq_same (q _ s16)
end
end My

set_option pp.maxSteps 600
/-! steps undone and done again -/
namespace My
open PySem PySem.Spec PyProof.Rows L2
def Edt.opp (e : Edt) : Edt := ⟨e.idx, e.new, e.old, e.later, e.here⟩
/-- undone, the old row stands -/
theorem opp_app {C : Cod} {row : List Nat} {st : Int × Int} {s : Stp} (h : s.Ok C row) : (s.edt row st).opp.app (s.row row) = row := by
  cases s with
  | put i k =>
    have h1 := h.1
    show (row.take i ++ [k] ++ row.drop i).take i ++ [] ++ (row.take i ++ [k] ++ row.drop i).drop (i + 1) = row
    have l : (row.take i).length = i := by rw [List.length_take]; omega
    rw [List.append_nil, List.append_assoc, List.take_append_of_le_length (by omega), List.take_of_length_le (by omega), List.drop_append, l]
    rw [show (row.take i).drop (i + 1) = [] from List.drop_eq_nil_of_le (by omega), show i + 1 - i = 1 by omega]
    exact List.take_append_drop i row
  | set i k =>
    have h1 := h.1
    show (row.take i ++ [k] ++ row.drop (i + 1)).take i ++ (row.drop i).take 1 ++ (row.take i ++ [k] ++ row.drop (i + 1)).drop (i + 1) = row
    have l : (row.take i).length = i := by rw [List.length_take]; omega
    rw [List.append_assoc (row.take i) [k] _, List.take_append_of_le_length (by omega), List.take_of_length_le (by omega), List.drop_append, l]
    rw [show (row.take i).drop (i + 1) = [] from List.drop_eq_nil_of_le (by omega), show i + 1 - i = 1 by omega, List.nil_append]
    show row.take i ++ (row.drop i).take 1 ++ row.drop (i + 1) = row
    rw [List.append_assoc, show row.drop (i + 1) = (row.drop i).drop 1 by rw [List.drop_drop], List.take_append_drop, List.take_append_drop]
  | cut b e =>
    obtain ⟨h1, h2⟩ := h
    show (row.take b ++ row.drop e).take b ++ (row.drop b).take (e - b) ++ (row.take b ++ row.drop e).drop (b + 0) = row
    have l : (row.take b).length = b := by rw [List.length_take]; omega
    rw [List.take_append_of_le_length (by omega), List.take_of_length_le (by omega), Nat.add_zero, List.drop_append, l]
    rw [show (row.take b).drop b = [] from List.drop_eq_nil_of_le (by omega), show b - b = 0 by omega, List.nil_append, List.drop_zero]
    rw [List.append_assoc, show row.drop e = (row.drop b).drop (e - b) by rw [List.drop_drop, show b + (e - b) = e by omega], List.take_append_drop, List.take_append_drop]
  | frm z =>
    show [] ++ [] ++ row = row
    rfl
theorem opp_fits {C : Cod} {row : List Nat} {st : Int × Int} {s : Stp} (h : s.Ok C row) : (s.edt row st).opp.Fits (s.row row) := by
  cases s with
  | put i k => have := h.1; show i + 1 ≤ (row.take i ++ [k] ++ row.drop i).length; simp only [List.length_append, List.length_take, List.length_drop, List.length_singleton]; omega
  | set i k => have := h.1; show i + 1 ≤ (row.take i ++ [k] ++ row.drop (i + 1)).length; simp only [List.length_append, List.length_take, List.length_drop, List.length_singleton]; omega
  | cut b e => obtain ⟨h1, h2⟩ := h; show b + 0 ≤ (row.take b ++ row.drop e).length; simp only [List.length_append, List.length_take, List.length_drop]; omega
  | frm z => exact Nat.zero_le _
theorem edt_oldlen {C : Cod} {row : List Nat} {st : Int × Int} {s : Stp} (h : s.Ok C row) : (s.edt row st).old.length ≤ row.length := by
  cases s with
  | put i k => exact Nat.zero_le _
  | set i k => show ((row.drop i).take 1).length ≤ _; rw [List.length_take, List.length_drop]; omega
  | cut b e => show ((row.drop b).take (e - b)).length ≤ _; rw [List.length_take, List.length_drop]; omega
  | frm z => exact Nat.zero_le _
theorem dpAll_snoc {K : PySem.W.Frag} {H : Hp} {d : PyData} : ∀ {ds : List PyData} {xs : List V}, DpAll K H xs (ds ++ [d]) → ∃ ys y, xs = ys ++ [y] ∧ DpAll K H ys ds ∧ Dp K H y d
  | [], _, h => by
    cases h with
    | cons h1 h2 =>
      cases h2 with
      | nil => exact ⟨[], _, rfl, .nil, h1⟩
  | a :: ds, _, h => by
    cases h with
    | cons h1 h2 =>
      obtain ⟨ys, y, rfl, h3, h4⟩ := dpAll_snoc h2
      exact ⟨_ :: ys, y, rfl, .cons h1 h3, h4⟩
section
variable {P : Program} {w : World} {K : PySem.W.Frag} {mg : Str → Option Value} {base : Heap}
def sp_opposite (T : Txt K mg) : Sp := fun vs H Q _ => ∃ (x : V) (e : Edt), vs = [x] ∧ Dp K H x e.dat ∧ ∀ p H', Same H H' → Dp K H' p e.opp.dat → Q p H'
theorem ok_opposite_of (T : Txt K mg) : FnOk P w K mg base CX0 1 T.f_opposite_of T.d_opposite_of ["edit"] (sp_opposite T) := by
  refine T.F_opposite_of.ok sc_opposite_of (fun vs H Q E h => ?_) (fun cdv A outer s H vs Q E hr h => ?_)
  · obtain ⟨x, e, rfl, _⟩ := h
    rfl
  · obtain ⟨x, e, rfl, hx, q⟩ := h
    obtain ⟨a, xs, rfl, ha, hd⟩ := dp_tup hx
    obtain ⟨x1, x2, x3, x4, x5, rfl, h1, h2, h3, h4, h5⟩ := dpAll5 hd
    refine ⟨_,
(pss_cons (ps_asg (pv 0) (pg_tup (by rfl) (pgs_cons (pg_name (i := 1) sc_opposite_of.nd rfl (Or.inl rfl)) (pgs_cons (pg_name (i := 2) sc_opposite_of.nd rfl (Or.inl rfl)) (pgs_cons (pg_name (i := 3) sc_opposite_of.nd rfl (Or.inl rfl)) (pgs_cons (pg_name (i := 4) sc_opposite_of.nd rfl (Or.inl rfl)) (pgs_cons (pg_name (i := 5) sc_opposite_of.nd rfl (Or.inl rfl)) pgs_nil)))))))
      (pss_one (ps_ret (pe_tup (pa_cons (pv 1) (pa_cons (pv 3) (pa_cons (pv 2) (pa_cons (pv 5) (pa_cons (pv 4) pa_nil)))))))))
, ?_⟩
    refine ⟨_, rfl, a, _, rfl, ha, rfl, _, _, rfl, _, _, rfl, _, _, rfl, _, _, rfl, _, _, rfl, rfl, ?_⟩
    refine ⟨_, rfl, _, rfl, _, rfl, _, rfl, _, rfl, ?_⟩
    refine ⟨by show 5 ≤ sizeLine; decide, fun t h_t => ?_⟩
    have s_t := same_new (o := .tup [x1, x3, x2, x5, x4]) h_t
    have t_t : SqT K (upd H t (.tup [x1, x3, x2, x5, x4])) t [x1, x3, x2, x5, x4] := upd_tup
    generalize upd H t (.tup [x1, x3, x2, x5, x4]) = H1 at s_t t_t
    clear h_t
    exact q _ _ s_t (.tup t_t (.cons (dp_same s_t _ _ h1) (.cons (dp_same s_t _ _ h3) (.cons (dp_same s_t _ _ h2) (.cons (dp_same s_t _ _ h5) (.cons (dp_same s_t _ _ h4) .nil))))))
/-- codes and state after an edit -/
def sp_follow (T : Txt K mg) : Sp := fun vs H Q _ => ∃ (p dx : Addr) (f r x d u y : V) (n : Nat) (row : List Nat) (e : Edt), vs = [.ref p, y] ∧ H p = some (dkO T dx f r x d u n) ∧ Dp K H r (rowI row) ∧ Dp K H y e.dat ∧ e.Fits row ∧ row.length ≤ 2000 ∧ e.new.length ≤ 2000 ∧
  ∀ r' x' H1, Same H H1 → Dp K H1 r' (rowI (e.app row)) → Dp K H1 x' (pairI e.later) → Q .non (upd H1 p (dkO T dx f r' x' d u n))
theorem ok_Desk_follow (T : Txt K mg) : FnOk P w K mg base CX0 2 T.f_Desk_follow T.d_Desk_follow ["self", "edit"] (sp_follow T) := by
  refine T.F_Desk_follow.ok sc_Desk_follow (fun vs H Q E h => ?_) (fun cdv A outer s H vs Q E hr h => ?_)
  · obtain ⟨p, dx, f, r, x, d, u, y, n, row, e, rfl, _⟩ := h
    rfl
  · obtain ⟨p, dx, f, r, x, d, u, y, n, row, e, rfl, hp, hrow, hy, fit, hl, hl2, q⟩ := h
    refine ⟨_,
(pss_cons (ps_fld (pv 0) (pe_call (ok_edited T) (hr.mono (by decide)) (by rfl) T.g_edited T.F_edited.kp T.b_edited .nil pass0 (pa_cons (pe_fld (pv 0) rfl) (pa_cons (pv 1) pa_nil))) rfl)
      (pss_one (ps_fld (pv 0) (pe_ix ix_tup (pv 1) pe_int (fun _ _ => rfl)) rfl)))
, ?_⟩
    refine ⟨_, rfl, p, T.C_Desk, dx, _, _, rfl, hp, T.cl_Desk, T.na_Desk__codes, rfl, _, rfl, r, y, row, e, rfl, hrow, hy, fit, hl, hl2, fun r' H1 s1 hr' => ?_⟩
    have p1 := s1 _ _ hp
    obtain ⟨a, xs, rfl, ha, hd⟩ := dp_tup (dp_same s1 _ _ hy)
    obtain ⟨x1, x2, x3, x4, x5, rfl, _, _, _, _, h5⟩ := dpAll5 hd
    refine ⟨_, rfl, p, T.C_Desk, dx, _, rfl, p1, T.cl_Desk, T.na_Desk__codes, by show 6 < 1000; decide, ?_⟩
    have k := exI_ins (o := dkO T dx f r' x d u n) p1
    refine ⟨_, rfl, a, _, 4, x5, rfl, rfl, exI_tup k ha, atI_nat (j := 4) rfl, ?_⟩
    refine ⟨_, rfl, p, T.C_Desk, dx, _, rfl, upd_same, T.cl_Desk, T.na_Desk__state, by show 6 < 1000; decide, ?_⟩
    rw [upd_upd]
    exact q r' x5 H1 s1 hr' h5
/-- undo -/
def sp_Desk_undo (T : Txt K mg) : Sp := fun vs H Q E => ∃ (p f d u : Addr) (C : Cod) (row0 row : List Nat) (st0 st : Int × Int) (dn un : List (Stp × Edt)) (n : Nat), vs = [.ref p] ∧ DkS T H p f d u C row0 st0 row st dn un n ∧ dn.length ≤ 90000 ∧ un.length ≤ 90000 ∧
  (dn = [] → ∀ H', DkF p d u H H' → DkS T H' p f d u C row0 st0 row st dn un (n + 1) → NilE T.C_Nothing H' E) ∧
  ∀ dn' s e, dn = dn' ++ [(s, e)] → e.opp.Fits row ∧ e.opp.new.length ≤ 2000 ∧ C.Row (e.opp.app row) ∧ C.St e.opp.later ∧
    ∀ v H', DkF p d u H H' → DkS T H' p f d u C row0 st0 (e.opp.app row) e.opp.later dn' (un ++ [(s, e)]) (n + 1) → Dp K H' v s.dat → Q v H'
set_option maxHeartbeats 2000000 in
theorem ok_Desk_undo (T : Txt K mg) : FnOk P w K mg base (L2.CX P w) 4 T.f_Desk_undo T.d_Desk_undo ["self"] (sp_Desk_undo T) := by
  refine T.F_Desk_undo.okX sc_Desk_undo (fun vs H Q E h => ?_) (fun cdv A outer s H vs Q E hr h => ?_)
  · obtain ⟨p, f, d, u, C, row0, row, st0, st, dn, un, n, rfl, _⟩ := h
    rfl
  · obtain ⟨p, f, d, u, C, row0, row, st0, st, dn, un, n, rfl, hD, l1, l2, q1, q2⟩ := h
    obtain ⟨dx, r, x, hp, hrow, hx⟩ := hD.ob
    refine ⟨_,
(pss_cons (ps_fld (pv 0) (pe_op op_add (pe_fld (pv 0) rfl) pe_int) rfl)
      (pss_cons (ps_if (pt_cmpR op_eq (pe_callB (call_len_seq) (by rfl) T.z_len (by decide +kernel) (pa_cons (pe_fld (pv 0) rfl) pa_nil)) pe_int (nomark _)) (pss_one (ps_raise rfl (takes_of rfl rfl rfl rfl) (My.pmkN T.o_Nothing T.i_Nothing T.t_Nothing (oki_Nothing T) (hr.mono (by decide)) T.bi_Nothing T.g_Nothing (pa_cons pe_str pa_nil)))) pss_nil)
      (pss_cons (ps_asg (pe_bm0 PySem.F.plainAttrs_list PySem.F.slot_list_pop PySem.F.type_list_pop mt_pop (pe_fld (pv 0) rfl)) (pg_tup (by rfl) (pgs_cons (pg_name (i := 1) sc_Desk_undo.nd rfl (Or.inl rfl)) (pgs_cons (pg_name (i := 2) sc_Desk_undo.nd rfl (Or.inl rfl)) pgs_nil))))
      (pss_cons (ps_expr (pe_bm PySem.F.plainAttrs_list PySem.F.slot_list_append PySem.F.type_list_append mt_append (pe_fld (pv 0) rfl) (pa_cons (pe_tup (pa_cons (pv 1) (pa_cons (pv 2) pa_nil))) pa_nil)))
      (pss_cons (ps_expr (pe_meth (pv 0) T.cl_Desk T.me_Desk_follow (ok_Desk_follow T) (hr.mono (by decide)) T.b_Desk_follow .nil pass0 (pa_cons (pe_call (ok_opposite_of T) (hr.mono (by decide)) (by rfl) T.g_opposite_of T.F_opposite_of.kp T.b_opposite_of .nil pass0 (pa_cons (pv 2) pa_nil)) pa_nil)))
      (pss_one (ps_ret (pv 1))))))))
, ?_⟩
    refine ⟨_, rfl, p, T.C_Desk, dx, _, _, rfl, hp, T.cl_Desk, T.na_Desk__tries, rfl, _, _, rfl, rfl, _, rfl, p, T.C_Desk, dx, _, rfl, hp, T.cl_Desk, T.na_Desk__tries, by show 6 < 1000; decide, ?_⟩
    have D1 : DkS T (upd H p (dkO T dx (.ref f) r x (.ref d) (.ref u) (n + 1))) p f d u C row0 st0 row st dn un (n + 1) := hD.put hp T.ne_cd hrow hx hD.ul hD.du hD.R hD.St
    have F1 : DkF p d u H (upd H p (dkO T dx (.ref f) r x (.ref d) (.ref u) (n + 1))) := (DkF.same (Same.refl H)).upd (.inl rfl)
    have p1 : (upd H p (dkO T dx (.ref f) r x (.ref d) (.ref u) (n + 1))) p = some (dkO T dx (.ref f) r x (.ref d) (.ref u) (n + 1)) := upd_same
    have k1 := exI_ins (o := dkO T dx (.ref f) r x (.ref d) (.ref u) (n + 1)) hp
    have hr1 := dp_exI k1 _ _ hrow
    have hx1 := dp_exI k1 _ _ hx
    show Ends.nx _ _ (upd H p (dkO T dx (.ref f) r x (.ref d) (.ref u) (n + 1)))
    generalize upd H p (dkO T dx (.ref f) r x (.ref d) (.ref u) (n + 1)) = H1 at k1 D1 F1 p1 hr1 hx1
    obtain ⟨ds, hd, hds⟩ := D1.dl
    obtain ⟨us, hu, hus⟩ := D1.ul
    have lds : ds.length = dn.length := by rw [dpAll_len hds, List.length_map]
    have lus : us.length = un.length := by rw [dpAll_len hus, List.length_map]
    refine ⟨_, rfl, p, T.C_Desk, dx, _, _, rfl, p1, T.cl_Desk, T.na_Desk__done, rfl, d, ds, rfl, .inl (SqL.of hd), rfl, _, rfl, ?_⟩
    rcases List.eq_nil_or_concat dn with hz | ⟨dn', ⟨s, e⟩, hz⟩
    · rw [show ds.length = 0 by rw [lds, hz]; rfl, decide_eq_true (show V.int ((0 : Nat) : Int) = V.int 0 from rfl)]
      refine iteT ?_
      refine ⟨by decide, fun a ha => ⟨a, _, rfl, upd_same, rfl, upd_same, ?_⟩⟩
      rw [del_new ha]
      exact q1 hz H1 F1 D1 H1 (Same.refl H1)
    · rw [List.concat_eq_append] at hz
      rw [decide_eq_false (show ¬ V.int (ds.length : Nat) = V.int 0 from fun z => by injection z with z; rw [lds, hz, List.length_append] at z; simp at z; omega)]
      refine iteF ?_
      obtain ⟨fit, ho, R', S', q⟩ := q2 dn' s e hz
      rw [hz, List.map_append] at hds
      obtain ⟨xs, y, rfl, hxs, hy⟩ := dpAll_snoc hds
      obtain ⟨ya, ys, rfl, hya, hyd⟩ := dp_tup hy
      obtain ⟨sv, ev, rfl, hsv, hev⟩ := dpAll2 hyd
      have ndp : d ≠ p := fun z => by rw [z, p1] at hd; cases hd
      have nup : u ≠ p := fun z => by rw [z, p1] at hu; cases hu
      have nsd : d ≠ u := D1.du
      refine ⟨_, rfl, p, T.C_Desk, dx, _, _, rfl, p1, T.cl_Desk, T.na_Desk__done, rfl, .inl ⟨rfl, _, SqL.of hd⟩, d, _, .ref ya, rfl, rfl, hd, by simp, ?_⟩
      rw [List.dropLast_concat]
      have F2 := F1.upd (b := d) (o := .lst xs) (.inr (.inl rfl))
      have k2 := keep_set (o := .lst xs) hd
      have fc2 := D1.fc.lst (o := .lst xs) hd
      have d2 : (upd H1 d (.lst xs)) d = some (.lst xs) := upd_same
      have p2 := (upd_ne (H := H1) (o := .lst xs) ndp.symm).trans p1
      have u2 := (upd_ne (H := H1) (o := .lst xs) nsd.symm).trans hu
      generalize upd H1 d (.lst xs) = H2 at F2 k2 fc2 d2 p2 u2
      refine ⟨ya, _, rfl, k2.tup hya, rfl, _, _, rfl, _, _, rfl, rfl, ?_⟩
      refine ⟨_, rfl, p, T.C_Desk, dx, _, _, rfl, p2, T.cl_Desk, T.na_Desk__undone, rfl, .inl ⟨rfl, _, SqL.of u2⟩, _, rfl, _, rfl, by show 2 ≤ sizeLine; decide, fun t ht => ?_⟩
      have s3 := same_new (o := .tup [sv, ev]) ht
      have hev2 := dp_keep k2 _ _ (noL_edt _) hev
      have hsv2 := dp_keep k2 _ _ (noL_stp _) hsv
      have t3 : Dp K (upd H2 t (.tup [sv, ev])) (.ref t) (seD (s, e)) := .tup upd_tup (.cons (dp_same s3 _ _ hsv2) (.cons (dp_same s3 _ _ hev2) .nil))
      have u3 := s3 _ _ u2
      refine ⟨u, us, _, rfl, rfl, u3, Nat.lt_of_le_of_lt (show us.length ≤ 90000 by omega) (by decide), ?_⟩
      have k4 := keep_set (o := .lst (us ++ [V.ref t])) u3
      have F4 := (F2.trans (DkF.same s3) (.inl rfl)).upd (b := u) (o := .lst (us ++ [V.ref t])) (.inr (.inr rfl))
      have fc4 := (fc2.same s3).lst (o := .lst (us ++ [V.ref t])) u3
      have d4 := (upd_ne (H := upd H2 t (.tup [sv, ev])) (o := .lst (us ++ [V.ref t])) nsd).trans (s3 _ _ d2)
      have p4 := (upd_ne (H := upd H2 t (.tup [sv, ev])) (o := .lst (us ++ [V.ref t])) nup.symm).trans (s3 _ _ p2)
      have u4 : (upd (upd H2 t (.tup [sv, ev])) u (.lst (us ++ [V.ref t]))) u = some (.lst (us ++ [V.ref t])) := upd_same
      have kk4 := (k2.trans (keep_same s3)).trans k4
      have t4 := dp_keep k4 _ _ (noL_se _) t3
      generalize upd (upd H2 t (.tup [sv, ev])) u (.lst (us ++ [V.ref t])) = H4 at F4 fc4 d4 p4 u4 kk4 t4
      have hev4 := dp_keep kk4 _ _ (noL_edt _) hev
      have hsv4 := dp_keep kk4 _ _ (noL_stp _) hsv
      have hr4 := dp_keep kk4 _ _ (noL_row _) hr1
      refine ⟨_, rfl, p, dx, _, rfl, p4, rfl, _, rfl, ev, e, rfl, hev4, fun ov H5 s5 hov => ?_⟩
      have p5 := s5 _ _ p4
      refine ⟨p, dx, .ref f, r, x, .ref d, .ref u, ov, n + 1, row, e.opp, rfl, p5, dp_same s5 _ _ hr4, hov, fit, D1.R.len, ho, fun r' x' H6 s6 hr' hx' => ?_⟩
      have p6 := s6 _ _ p5
      have k7 := exI_ins (o := dkO T dx (.ref f) r' x' (.ref d) (.ref u) (n + 1)) p6
      have s46 := s5.trans s6
      have kk7 := (kk4.trans (keep_same s46)).trans (exI_keep k7)
      have nfp : f ≠ p := fun h => by
        obtain ⟨_, _, _, _, z, _⟩ := fc4.ex
        rw [h, p4] at z
        unfold dkO clO at z
        injection z with z
        injection z with z _ _
        exact T.ne_cd z.symm
      refine ⟨_, rfl, q sv _ ((F4.trans (DkF.same s46) (.inl rfl)).upd (.inl rfl)) ?_ (dp_exI k7 _ _ (dp_same s46 _ _ hsv4))⟩
      have LX : DpAll K (upd H6 p (dkO T dx (.ref f) r' x' (.ref d) (.ref u) (n + 1))) xs (dn'.map seD) := dpAll_keep kk7 _ _ (noL_ses _) hxs
      have LY : DpAll K (upd H6 p (dkO T dx (.ref f) r' x' (.ref d) (.ref u) (n + 1))) (us ++ [V.ref t]) ((un ++ [(s, e)]).map seD) := by
        rw [List.map_append]
        exact dpAll_app (dpAll_keep kk7 _ _ (noL_ses _) hus) (.cons (dp_exI k7 _ _ (dp_same s46 _ _ t4)) .nil)
      exact ⟨⟨dx, r', x', upd_same, dp_exI k7 _ _ hr', dp_exI k7 _ _ hx'⟩, (fc4.same s46).exI p6 nfp, ⟨xs, k7 _ _ (s46 _ _ d4) nofun nofun, LX⟩, ⟨us ++ [V.ref t], k7 _ _ (s46 _ _ u4) nofun nofun, LY⟩, D1.du, R', S'⟩
/-- redo -/
def sp_Desk_redo (T : Txt K mg) : Sp := fun vs H Q E => ∃ (p f d u : Addr) (C : Cod) (row0 row : List Nat) (st0 st : Int × Int) (dn un : List (Stp × Edt)) (n : Nat), vs = [.ref p] ∧ DkS T H p f d u C row0 st0 row st dn un n ∧ dn.length ≤ 90000 ∧ un.length ≤ 90000 ∧
  (un = [] → ∀ H', DkF p d u H H' → DkS T H' p f d u C row0 st0 row st dn un (n + 1) → NilE T.C_Nothing H' E) ∧
  ∀ dn' s e, un = dn' ++ [(s, e)] → e.Fits row ∧ e.new.length ≤ 2000 ∧ C.Row (e.app row) ∧ C.St e.later ∧
    ∀ v H', DkF p d u H H' → DkS T H' p f d u C row0 st0 (e.app row) e.later (dn ++ [(s, e)]) dn' (n + 1) → Dp K H' v s.dat → Q v H'
set_option maxHeartbeats 2000000 in
theorem ok_Desk_redo (T : Txt K mg) : FnOk P w K mg base (L2.CX P w) 4 T.f_Desk_redo T.d_Desk_redo ["self"] (sp_Desk_redo T) := by
  refine T.F_Desk_redo.okX sc_Desk_redo (fun vs H Q E h => ?_) (fun cdv A outer s H vs Q E hr h => ?_)
  · obtain ⟨p, f, d, u, C, row0, row, st0, st, dn, un, n, rfl, _⟩ := h
    rfl
  · obtain ⟨p, f, d, u, C, row0, row, st0, st, dn, un, n, rfl, hD, l1, l2, q1, q2⟩ := h
    obtain ⟨dx, r, x, hp, hrow, hx⟩ := hD.ob
    refine ⟨_,
(pss_cons (ps_fld (pv 0) (pe_op op_add (pe_fld (pv 0) rfl) pe_int) rfl)
      (pss_cons (ps_if (pt_cmpR op_eq (pe_callB (call_len_seq) (by rfl) T.z_len (by decide +kernel) (pa_cons (pe_fld (pv 0) rfl) pa_nil)) pe_int (nomark _)) (pss_one (ps_raise rfl (takes_of rfl rfl rfl rfl) (My.pmkN T.o_Nothing T.i_Nothing T.t_Nothing (oki_Nothing T) (hr.mono (by decide)) T.bi_Nothing T.g_Nothing (pa_cons pe_str pa_nil)))) pss_nil)
      (pss_cons (ps_asg (pe_bm0 PySem.F.plainAttrs_list PySem.F.slot_list_pop PySem.F.type_list_pop mt_pop (pe_fld (pv 0) rfl)) (pg_tup (by rfl) (pgs_cons (pg_name (i := 1) sc_Desk_redo.nd rfl (Or.inl rfl)) (pgs_cons (pg_name (i := 2) sc_Desk_redo.nd rfl (Or.inl rfl)) pgs_nil))))
      (pss_cons (ps_expr (pe_bm PySem.F.plainAttrs_list PySem.F.slot_list_append PySem.F.type_list_append mt_append (pe_fld (pv 0) rfl) (pa_cons (pe_tup (pa_cons (pv 1) (pa_cons (pv 2) pa_nil))) pa_nil)))
      (pss_cons (ps_expr (pe_meth (pv 0) T.cl_Desk T.me_Desk_follow (ok_Desk_follow T) (hr.mono (by decide)) T.b_Desk_follow .nil pass0 (pa_cons (pv 2) pa_nil)))
      (pss_one (ps_ret (pv 1))))))))
, ?_⟩
    refine ⟨_, rfl, p, T.C_Desk, dx, _, _, rfl, hp, T.cl_Desk, T.na_Desk__tries, rfl, _, _, rfl, rfl, _, rfl, p, T.C_Desk, dx, _, rfl, hp, T.cl_Desk, T.na_Desk__tries, by show 6 < 1000; decide, ?_⟩
    have D1 : DkS T (upd H p (dkO T dx (.ref f) r x (.ref d) (.ref u) (n + 1))) p f d u C row0 st0 row st dn un (n + 1) := hD.put hp T.ne_cd hrow hx hD.ul hD.du hD.R hD.St
    have F1 : DkF p d u H (upd H p (dkO T dx (.ref f) r x (.ref d) (.ref u) (n + 1))) := (DkF.same (Same.refl H)).upd (.inl rfl)
    have p1 : (upd H p (dkO T dx (.ref f) r x (.ref d) (.ref u) (n + 1))) p = some (dkO T dx (.ref f) r x (.ref d) (.ref u) (n + 1)) := upd_same
    have k1 := exI_ins (o := dkO T dx (.ref f) r x (.ref d) (.ref u) (n + 1)) hp
    have hr1 := dp_exI k1 _ _ hrow
    have hx1 := dp_exI k1 _ _ hx
    show Ends.nx _ _ (upd H p (dkO T dx (.ref f) r x (.ref d) (.ref u) (n + 1)))
    generalize upd H p (dkO T dx (.ref f) r x (.ref d) (.ref u) (n + 1)) = H1 at k1 D1 F1 p1 hr1 hx1
    obtain ⟨ds, hd, hds⟩ := D1.ul
    obtain ⟨us, hu, hus⟩ := D1.dl
    have lds : ds.length = un.length := by rw [dpAll_len hds, List.length_map]
    have lus : us.length = dn.length := by rw [dpAll_len hus, List.length_map]
    refine ⟨_, rfl, p, T.C_Desk, dx, _, _, rfl, p1, T.cl_Desk, T.na_Desk__undone, rfl, u, ds, rfl, .inl (SqL.of hd), rfl, _, rfl, ?_⟩
    rcases List.eq_nil_or_concat un with hz | ⟨dn', ⟨s, e⟩, hz⟩
    · rw [show ds.length = 0 by rw [lds, hz]; rfl, decide_eq_true (show V.int ((0 : Nat) : Int) = V.int 0 from rfl)]
      refine iteT ?_
      refine ⟨by decide, fun a ha => ⟨a, _, rfl, upd_same, rfl, upd_same, ?_⟩⟩
      rw [del_new ha]
      exact q1 hz H1 F1 D1 H1 (Same.refl H1)
    · rw [List.concat_eq_append] at hz
      rw [decide_eq_false (show ¬ V.int (ds.length : Nat) = V.int 0 from fun z => by injection z with z; rw [lds, hz, List.length_append] at z; simp at z; omega)]
      refine iteF ?_
      obtain ⟨fit, ho, R', S', q⟩ := q2 dn' s e hz
      rw [hz, List.map_append] at hds
      obtain ⟨xs, y, rfl, hxs, hy⟩ := dpAll_snoc hds
      obtain ⟨ya, ys, rfl, hya, hyd⟩ := dp_tup hy
      obtain ⟨sv, ev, rfl, hsv, hev⟩ := dpAll2 hyd
      have ndp : u ≠ p := fun z => by rw [z, p1] at hd; cases hd
      have nup : d ≠ p := fun z => by rw [z, p1] at hu; cases hu
      have nsd : u ≠ d := D1.du.symm
      refine ⟨_, rfl, p, T.C_Desk, dx, _, _, rfl, p1, T.cl_Desk, T.na_Desk__undone, rfl, .inl ⟨rfl, _, SqL.of hd⟩, u, _, .ref ya, rfl, rfl, hd, by simp, ?_⟩
      rw [List.dropLast_concat]
      have F2 := F1.upd (b := u) (o := .lst xs) (.inr (.inr rfl))
      have k2 := keep_set (o := .lst xs) hd
      have fc2 := D1.fc.lst (o := .lst xs) hd
      have d2 : (upd H1 u (.lst xs)) u = some (.lst xs) := upd_same
      have p2 := (upd_ne (H := H1) (o := .lst xs) ndp.symm).trans p1
      have u2 := (upd_ne (H := H1) (o := .lst xs) nsd.symm).trans hu
      generalize upd H1 u (.lst xs) = H2 at F2 k2 fc2 d2 p2 u2
      refine ⟨ya, _, rfl, k2.tup hya, rfl, _, _, rfl, _, _, rfl, rfl, ?_⟩
      refine ⟨_, rfl, p, T.C_Desk, dx, _, _, rfl, p2, T.cl_Desk, T.na_Desk__done, rfl, .inl ⟨rfl, _, SqL.of u2⟩, _, rfl, _, rfl, by show 2 ≤ sizeLine; decide, fun t ht => ?_⟩
      have s3 := same_new (o := .tup [sv, ev]) ht
      have hev2 := dp_keep k2 _ _ (noL_edt _) hev
      have hsv2 := dp_keep k2 _ _ (noL_stp _) hsv
      have t3 : Dp K (upd H2 t (.tup [sv, ev])) (.ref t) (seD (s, e)) := .tup upd_tup (.cons (dp_same s3 _ _ hsv2) (.cons (dp_same s3 _ _ hev2) .nil))
      have u3 := s3 _ _ u2
      refine ⟨d, us, _, rfl, rfl, u3, Nat.lt_of_le_of_lt (show us.length ≤ 90000 by omega) (by decide), ?_⟩
      have k4 := keep_set (o := .lst (us ++ [V.ref t])) u3
      have F4 := (F2.trans (DkF.same s3) (.inl rfl)).upd (b := d) (o := .lst (us ++ [V.ref t])) (.inr (.inl rfl))
      have fc4 := (fc2.same s3).lst (o := .lst (us ++ [V.ref t])) u3
      have d4 := (upd_ne (H := upd H2 t (.tup [sv, ev])) (o := .lst (us ++ [V.ref t])) nsd).trans (s3 _ _ d2)
      have p4 := (upd_ne (H := upd H2 t (.tup [sv, ev])) (o := .lst (us ++ [V.ref t])) nup.symm).trans (s3 _ _ p2)
      have u4 : (upd (upd H2 t (.tup [sv, ev])) d (.lst (us ++ [V.ref t]))) d = some (.lst (us ++ [V.ref t])) := upd_same
      have kk4 := (k2.trans (keep_same s3)).trans k4
      have t4 := dp_keep k4 _ _ (noL_se _) t3
      generalize upd (upd H2 t (.tup [sv, ev])) d (.lst (us ++ [V.ref t])) = H4 at F4 fc4 d4 p4 u4 kk4 t4
      have hev4 := dp_keep kk4 _ _ (noL_edt _) hev
      have hsv4 := dp_keep kk4 _ _ (noL_stp _) hsv
      have hr4 := dp_keep kk4 _ _ (noL_row _) hr1
      have s5 : Same H4 H4 := Same.refl H4
      have p5 := p4
      refine ⟨_, rfl, p, dx, _, rfl, p4, rfl, _, rfl, p, dx, .ref f, r, x, .ref d, .ref u, ev, n + 1, row, e, rfl, p5, hr4, hev4, fit, D1.R.len, ho, fun r' x' H6 s6 hr' hx' => ?_⟩
      have p6 := s6 _ _ p5
      have k7 := exI_ins (o := dkO T dx (.ref f) r' x' (.ref d) (.ref u) (n + 1)) p6
      have s46 := s5.trans s6
      have kk7 := (kk4.trans (keep_same s46)).trans (exI_keep k7)
      have nfp : f ≠ p := fun h => by
        obtain ⟨_, _, _, _, z, _⟩ := fc4.ex
        rw [h, p4] at z
        unfold dkO clO at z
        injection z with z
        injection z with z _ _
        exact T.ne_cd z.symm
      refine ⟨_, rfl, q sv _ ((F4.trans (DkF.same s46) (.inl rfl)).upd (.inl rfl)) ?_ (dp_exI k7 _ _ (dp_same s46 _ _ hsv4))⟩
      have LX : DpAll K (upd H6 p (dkO T dx (.ref f) r' x' (.ref d) (.ref u) (n + 1))) xs (dn'.map seD) := dpAll_keep kk7 _ _ (noL_ses _) hxs
      have LY : DpAll K (upd H6 p (dkO T dx (.ref f) r' x' (.ref d) (.ref u) (n + 1))) (us ++ [V.ref t]) ((dn ++ [(s, e)]).map seD) := by
        rw [List.map_append]
        exact dpAll_app (dpAll_keep kk7 _ _ (noL_ses _) hus) (.cons (dp_exI k7 _ _ (dp_same s46 _ _ t4)) .nil)
      exact ⟨⟨dx, r', x', upd_same, dp_exI k7 _ _ hr', dp_exI k7 _ _ hx'⟩, (fc4.same s46).exI p6 nfp, ⟨us ++ [V.ref t], k7 _ _ (s46 _ _ u4) nofun nofun, LY⟩, ⟨xs, k7 _ _ (s46 _ _ d4) nofun nofun, LX⟩, D1.du, R', S'⟩
end
end My

set_option pp.maxSteps 700
/-! one more step; lists cut at their end -/
namespace My
open PySem PySem.Spec PyProof.Rows L2
theorem endR_snoc : ∀ (ss : List Stp) (row : List Nat) (s : Stp), endR row (ss ++ [s]) = s.row (endR row ss)
  | [], _, _ => rfl
  | a :: ss, row, s => endR_snoc ss (a.row row) s
theorem endS_snoc : ∀ (ss : List Stp) (st : Int × Int) (s : Stp), endS st (ss ++ [s]) = s.st (endS st ss)
  | [], _, _ => rfl
  | a :: ss, st, s => endS_snoc ss (a.st st) s
theorem edl_snoc : ∀ (ss : List Stp) (st : Int × Int) (row : List Nat) (s : Stp), edl st row (ss ++ [s]) = edl st row ss ++ [(s, s.edt (endR row ss) (endS st ss))]
  | [], _, _, _ => rfl
  | a :: ss, st, row, s => by
    show (a, a.edt row st) :: edl (a.st st) (a.row row) (ss ++ [s]) = _
    rw [edl_snoc ss]
    rfl
theorem stpsOk_snoc {C : Cod} : ∀ {ss : List Stp} {row : List Nat} {s : Stp}, stpsOk C row (ss ++ [s]) ↔ stpsOk C row ss ∧ s.Ok C (endR row ss) ∧ (s.row (endR row ss)).length ≤ 2000
  | [], row, s => ⟨fun h => ⟨True.intro, h.1, h.2.1⟩, fun h => ⟨h.2.1, h.2.2, True.intro⟩⟩
  | a :: ss, row, s => by
    have ih := stpsOk_snoc (C := C) (ss := ss) (row := a.row row) (s := s)
    exact ⟨fun h => ⟨⟨h.1, h.2.1, (ih.mp h.2.2).1⟩, (ih.mp h.2.2).2⟩, fun h => ⟨h.1.1, h.1.2.1, ih.mpr ⟨h.1.2.2, h.2⟩⟩⟩
theorem endR_len {C : Cod} : ∀ {ss : List Stp} {row : List Nat}, stpsOk C row ss → (endR row ss).length ≤ row.length + ss.length
  | [], row, _ => Nat.le_refl _
  | a :: ss, row, h => by
    have ih := endR_len (ss := ss) h.2.2
    have := stp_len h.1
    show (endR (a.row row) ss).length ≤ row.length + (ss.length + 1)
    omega
theorem cut_lastV {ys : List V} {y : V} : cutV (ys ++ [y]) (some (-1)) none = [y] := by
  unfold cutV
  have e : HT.sIx (ys ++ [y]).length 0 (some (-1)) = ys.length := by
    rw [List.length_append]
    show HT.sIx (ys.length + 1) 0 (some (-1)) = ys.length
    unfold HT.sIx
    simp
    omega
  have e2 : HT.sIx (ys ++ [y]).length (ys ++ [y]).length none = (ys ++ [y]).length := rfl
  rw [e, e2, List.drop_append_of_le_length (Nat.le_refl _), List.drop_length, List.nil_append, List.length_append]
  rw [show ys.length + [y].length - ys.length = 1 by simp]
  rfl
theorem cut_initV {ys : List V} {y : V} : cutV (ys ++ [y]) none (some (-1)) = ys := by
  unfold cutV
  have e : HT.sIx (ys ++ [y]).length (ys ++ [y]).length (some (-1)) = ys.length := by
    rw [List.length_append]
    show HT.sIx (ys.length + 1) (ys.length + 1) (some (-1)) = ys.length
    unfold HT.sIx
    simp
    omega
  have e2 : HT.sIx (ys ++ [y]).length 0 none = 0 := rfl
  rw [e, e2, List.drop_zero, Nat.sub_zero, List.take_append_of_le_length (Nat.le_refl _), List.take_length]
theorem cut_nilV {lo hi : Option Int} : cutV [] lo hi = [] := by
  unfold cutV
  rw [List.drop_nil, List.take_nil]
end My

set_option pp.maxSteps 500
/-! things that are no steps -/
namespace My
open PySem PySem.Spec PyProof.Rows L2
theorem kpS {m l l' : Addr} {H H1 H' : Hp} (s : Same H H1) (k : Kp m l H1 l' H') : Kp m l H l' H' := ⟨fun b o h n1 n2 => k.st b o (s b o h) n1 n2, k.nw.imp id s.free, fun b h => s.free (k.dm b h)⟩
theorem btw_lt {n lo hi : Int} (h : n < lo) : btw (.int n) lo hi = false := by
  show (decide (lo ≤ n) && decide (n ≤ hi)) = false
  rw [decide_eq_false (by omega)]
  rfl
theorem btw_gt {n lo hi : Int} (h : hi < n) : btw (.int n) lo hi = false := by
  show (decide (lo ≤ n) && decide (n ≤ hi)) = false
  rw [decide_eq_false (show ¬ n ≤ hi by omega), Bool.and_false]
theorem btw_big {hi : Int} (h : hi ≤ 2000) : btw (.int ((10 : Int) ^ (30 : Int).toNat)) 1 hi = false := btw_gt (Int.lt_of_le_of_lt h (by decide))
theorem st_l {C : Cod} {b : PyData} : btw (.int (C.high + 1)) C.low C.high = false → stateD C (.tuple [.int (C.high + 1), b]) = false := fun h => by
  show (btw (.int (C.high + 1)) C.low C.high && _) = false
  rw [h]
  rfl
theorem st_r {C : Cod} {a : PyData} : stateD C (.tuple [a, .int (C.steps.length : Nat)]) = false := by
  show (btw a C.low C.high && btw (.int (C.steps.length : Nat)) 0 ((C.steps.length : Int) - 1)) = false
  rw [btw_gt (show ((C.steps.length : Int) - 1) < (C.steps.length : Nat) by omega), Bool.and_false]
section
variable {P : Program} {w : World} {K : PySem.W.Frag} {mg : Str → Option Value} {base : Heap}
theorem bad_ty {H : Hp} {C : Cod} {row : List Nat} {x : V} {t : String} (ty : TyX K H x (.type t)) (k : PySem.W.kitOne K (.type t) (.type "tuple") = some false) : BadT K H C row x := ⟨none, ⟨t, ty, k⟩, nofun, nofun⟩
theorem bad_nil {H : Hp} {C : Cod} {row : List Nat} {x : V} (h : Dp K H x (.tuple [])) : BadT K H C row x := ⟨some [], h, fun ds e => by injection e with e; subst e; rfl, fun w r e => by injection e with e; cases e⟩
theorem bad_str {H : Hp} {C : Cod} {row : List Nat} {x : V} {w : Str} {ds : List PyData} (h : Dp K H x (.tuple (.str w :: ds))) (hc : canB C row (.str w :: ds) = false) (hw : PyData.strOk w = true) : BadT K H C row x :=
  ⟨some _, h, fun ds e => by injection e with e; subst e; exact hc, fun w r e => by injection e with e; injection e with e1 _; injection e1 with e1; subst e1; exact hw⟩
theorem bad_no {H : Hp} {C : Cod} {row : List Nat} {x : V} {d : PyData} {ds : List PyData} (h : Dp K H x (.tuple (d :: ds))) (hd : isStr d = false) : BadT K H C row x :=
  ⟨some _, h, (fun ds e => by
    injection e with e
    subst e
    cases d <;> first | rfl | cases hd), (fun w r e => by
    injection e with e
    injection e with e1 _
    subst e1
    cases hd)⟩
theorem bad_cutI {H : Hp} {C : Cod} {row : List Nat} {x : V} {a : PyData} {n : Int} (h : Dp K H x (.tuple [.str "cut", a, .int n])) (hc : btw a 0 (n - 1) = false) : BadT K H C row x := bad_str h (by
  show (btw (.int n) 1 (row.length : Int) && btw a 0 (n - 1)) = false
  rw [hc, Bool.and_false]) (by decide +kernel)
theorem bad_put {H : Hp} {C : Cod} {row : List Nat} {x : V} {a b : PyData} (h : Dp K H x (.tuple [.str "put", a, b])) (hc : btw a 0 (row.length : Int) = false ∨ btw b 0 ((C.moves.length : Int) - 1) = false) : BadT K H C row x := bad_str h (by
  show (btw a 0 (row.length : Int) && btw b 0 ((C.moves.length : Int) - 1)) = false
  rcases hc with e | e <;> rw [e]
  · rfl
  · rw [Bool.and_false]) (by decide +kernel)
theorem bad_set {H : Hp} {C : Cod} {row : List Nat} {x : V} {a b : PyData} (h : Dp K H x (.tuple [.str "set", a, b])) (hc : btw a 0 ((row.length : Int) - 1) = false ∨ btw b 0 ((C.moves.length : Int) - 1) = false) : BadT K H C row x := bad_str h (by
  show (btw a 0 ((row.length : Int) - 1) && btw b 0 ((C.moves.length : Int) - 1)) = false
  rcases hc with e | e <;> rw [e]
  · rfl
  · rw [Bool.and_false]) (by decide +kernel)
theorem bad_cut {H : Hp} {C : Cod} {row : List Nat} {x : V} {a b : PyData} (h : Dp K H x (.tuple [.str "cut", a, b])) (hc : btw b 1 (row.length : Int) = false ∨ belowB a b = false) : BadT K H C row x := bad_str h (by
  show (btw b 1 (row.length : Int) && belowB a b) = false
  rcases hc with e | e <;> rw [e]
  · rfl
  · rw [Bool.and_false]) (by decide +kernel)
theorem bad_from {H : Hp} {C : Cod} {row : List Nat} {x : V} {a : PyData} (h : Dp K H x (.tuple [.str "from", a])) (hc : stateD C a = false) : BadT K H C row x := bad_str h (by
  show stateD C a = false
  exact hc) (by decide +kernel)
def sp_law_odd_step (T : Txt K mg) : Sp := fun vs H Q _ => ∃ (m c l k : Addr) (cv rv : V) (C : Cod) (row : List Nat), vs = [.ref m, cv, rv] ∧ Dr H m c l (k + 1) ∧ C.Ok ∧ Dp K H cv C.dat ∧ Dp K H rv (rowI row) ∧ row.length ≤ 2000 ∧
  ∀ v l' H', Kp m l H l' H' → Dr H' m c l' k → BadT K H' C row v → Q v H'
set_option maxHeartbeats 8000000 in
theorem ok_law_odd_step (T : Txt K mg) : FnOk P w K mg base CX0 3 T.f__law_odd_step T.d__law_odd_step ["m", "coder", "row"] (sp_law_odd_step T) := by
  refine T.F__law_odd_step.ok sc_law_odd_step (fun vs H Q E h => ?_) (fun cdv A outer s H vs Q E hr h => ?_)
  · obtain ⟨m, c, l, k, cv, rv, C, row, rfl, _⟩ := h
    rfl
  · obtain ⟨m, c, l, k, cv, rv, C, row, rfl, D, O, hcv, hrv, hrl, q⟩ := h
    obtain ⟨ca, csa, cma, cms, rfl, hca, hcs, hcm, hcmd⟩ := cod_at hcv
    obtain ⟨ra, rfl, hra⟩ := row_at hrv
    have l1 : (rowV row).length = row.length := List.length_map ..
    have hml : cms.length = C.moves.length := by rw [dpAll_len hcmd, List.length_map]
    have hm1 := O.m1
    have ho1 := O.h1
    refine ⟨_,
(pss_cons (ps_par (i := 3) (j := 4) (by rfl) sc_law_odd_step.nd rfl rfl (by decide) rfl rfl (pa_cons (pe_callB (call_len_seq) (by rfl) T.z_len (by decide +kernel) (pa_cons (pv 2) pa_nil)) (pa_cons (pe_callB (call_len_seq) (by rfl) T.z_len (by decide +kernel) (pa_cons (pe_ix ix_tup (pv 1) pe_int (fun _ _ => rfl)) pa_nil)) pa_nil)) (by rfl))
      (pss_cons (ps_set (i := 5) sc_law_odd_step.nd rfl (Or.inl rfl) (pe_lst (pa_cons pe_non (pa_cons (pe_tup pa_nil) (pa_cons pe_str (pa_cons (pe_lst (pa_cons pe_str (pa_cons pe_int (pa_cons pe_int pa_nil)))) (pa_cons (pe_tup (pa_cons pe_str pa_nil)) (pa_cons (pe_tup (pa_cons pe_str (pa_cons pe_int pa_nil))) (pa_cons (pe_tup (pa_cons pe_str (pa_cons (pe_op op_add (pv 3) pe_int) (pa_cons pe_int pa_nil)))) (pa_cons (pe_tup (pa_cons pe_str (pa_cons (pe_un un_neg pe_int) (pa_cons pe_int pa_nil)))) pa_nil))))))))))
      (pss_cons (ps_set (i := 5) sc_law_odd_step.nd rfl (Or.inl rfl) (pe_op op_cat (pv 5) (pe_lst (pa_cons (pe_tup (pa_cons pe_str (pa_cons pe_int (pa_cons (pv 4) pa_nil)))) (pa_cons (pe_tup (pa_cons pe_str (pa_cons pe_int (pa_cons pe_non pa_nil)))) (pa_cons (pe_tup (pa_cons pe_str (pa_cons pe_bl (pa_cons pe_int pa_nil)))) (pa_cons (pe_tup (pa_cons pe_str (pa_cons pe_int (pa_cons pe_bl pa_nil)))) (pa_cons (pe_tup (pa_cons pe_str (pa_cons pe_int (pa_cons pe_int (pa_cons pe_int pa_nil))))) pa_nil))))))))
      (pss_cons (ps_set (i := 5) sc_law_odd_step.nd rfl (Or.inl rfl) (pe_op op_cat (pv 5) (pe_lst (pa_cons (pe_tup (pa_cons pe_str (pa_cons (pv 3) (pa_cons pe_int pa_nil)))) (pa_cons (pe_tup (pa_cons pe_str (pa_cons (pe_un un_neg pe_int) (pa_cons pe_int pa_nil)))) (pa_cons (pe_tup (pa_cons pe_str (pa_cons pe_int (pa_cons (pv 4) pa_nil)))) (pa_cons (pe_tup (pa_cons pe_str (pa_cons pe_str (pa_cons pe_int pa_nil)))) (pa_cons (pe_tup (pa_cons pe_str (pa_cons pe_int (pa_cons (pe_un un_neg pe_int) pa_nil)))) (pa_cons (pe_tup (pa_cons pe_str (pa_cons pe_int pa_nil))) pa_nil)))))))))
      (pss_cons (ps_set (i := 5) sc_law_odd_step.nd rfl (Or.inl rfl) (pe_op op_cat (pv 5) (pe_lst (pa_cons (pe_tup (pa_cons pe_str (pa_cons pe_int (pa_cons pe_int pa_nil)))) (pa_cons (pe_tup (pa_cons pe_str (pa_cons (pv 3) (pa_cons (pv 3) pa_nil)))) (pa_cons (pe_tup (pa_cons pe_str (pa_cons pe_int (pa_cons (pe_op op_add (pv 3) pe_int) pa_nil)))) (pa_cons (pe_tup (pa_cons pe_str (pa_cons (pe_un un_neg pe_int) (pa_cons (pv 3) pa_nil)))) (pa_cons (pe_tup (pa_cons pe_str (pa_cons pe_int (pa_cons pe_int pa_nil)))) pa_nil))))))))
      (pss_cons (ps_set (i := 5) sc_law_odd_step.nd rfl (Or.inl rfl) (pe_op op_cat (pv 5) (pe_lst (pa_cons (pe_tup (pa_cons pe_str (pa_cons pe_int (pa_cons pe_non pa_nil)))) (pa_cons (pe_tup (pa_cons pe_str (pa_cons pe_bl (pa_cons pe_int pa_nil)))) (pa_cons (pe_tup (pa_cons pe_str (pa_cons pe_int pa_nil))) (pa_cons (pe_tup (pa_cons pe_str pa_nil)) (pa_cons (pe_tup (pa_cons pe_str (pa_cons pe_non pa_nil))) (pa_cons (pe_tup (pa_cons pe_str (pa_cons pe_int pa_nil))) pa_nil)))))))))
      (pss_cons (ps_set (i := 5) sc_law_odd_step.nd rfl (Or.inl rfl) (pe_op op_cat (pv 5) (pe_lst (pa_cons (pe_tup (pa_cons pe_str (pa_cons (pe_tup (pa_cons (pe_op op_add (pe_ix ix_tup (pv 1) pe_int (fun _ _ => rfl)) pe_int) (pa_cons pe_int pa_nil))) pa_nil))) (pa_cons (pe_tup (pa_cons pe_str (pa_cons (pe_tup (pa_cons pe_int (pa_cons (pe_callB (call_len_seq) (by rfl) T.z_len (by decide +kernel) (pa_cons (pe_ix ix_tup (pv 1) pe_int (fun _ _ => rfl)) pa_nil)) pa_nil))) pa_nil))) (pa_cons (pe_tup (pa_cons pe_str (pa_cons (pe_tup (pa_cons pe_int (pa_cons pe_int pa_nil))) (pa_cons pe_int pa_nil)))) (pa_cons (pe_tup (pa_cons pe_str (pa_cons (pe_lst (pa_cons pe_int (pa_cons pe_int pa_nil))) pa_nil))) pa_nil)))))))
      (pss_cons (ps_set (i := 5) sc_law_odd_step.nd rfl (Or.inl rfl) (pe_op op_cat (pv 5) (pe_lst (pa_cons (pe_tup (pa_cons pe_str (pa_cons pe_int (pa_cons pe_int pa_nil)))) (pa_cons (pe_tup (pa_cons pe_non (pa_cons pe_int (pa_cons pe_int pa_nil)))) (pa_cons (pe_tup (pa_cons (pe_lst pa_nil) (pa_cons pe_int (pa_cons pe_int pa_nil)))) (pa_cons (pe_tup (pa_cons pe_str (pa_cons pe_int pa_nil))) (pa_cons (pe_tup (pa_cons pe_str (pa_cons pe_int (pa_cons pe_int pa_nil)))) (pa_cons (pe_tup (pa_cons pe_str (pa_cons (pe_tup (pa_cons pe_int pa_nil)) (pa_cons pe_int pa_nil)))) (pa_cons pe_dnewK (pa_cons pe_int pa_nil)))))))))))
      (pss_cons (ps_set (i := 5) sc_law_odd_step.nd rfl (Or.inl rfl) (pe_op op_cat (pv 5) (pe_lst (pa_cons (pe_tup (pa_cons pe_str (pa_cons pe_int (pa_cons (pe_op op_pow pe_int pe_int) pa_nil)))) (pa_cons (pe_tup (pa_cons pe_str (pa_cons (pe_tup (pa_cons pe_int pa_nil)) pa_nil))) pa_nil)))))
      (pss_one (ps_ret (pe_ix ix_list (pv 5) (pe_call (ok_law_next T) (hr.mono (by decide)) (by rfl) T.g__law_next T.F__law_next.kp T.b__law_next .nil pass0 (pa_cons (pv 0) (pa_cons (pe_callB (call_len_seq) (by rfl) T.z_len (by decide +kernel) (pa_cons (pv 5) pa_nil)) pa_nil))) (fun _ _ => rfl)))))))))))))
, ?_⟩
    refine ⟨_, rfl, ra, _, rfl, .inr hra, _, rfl, ca, _, 3, _, rfl, rfl, hca, atI_nat (j := 3) rfl, cma, _, rfl, .inr hcm, _, _, rfl, ?_⟩
    rw [l1, hml]
    -- 1
    refine ⟨by show 0 ≤ sizeLine; decide, fun z1 h_z1 => ?_⟩
    have s_z1 := same_new (o := .tup []) h_z1
    have n_z1 := hide_at (o := .tup []) (D.same (Same.refl H)) h_z1
    generalize upd H z1 (.tup []) = G1 at s_z1 n_z1
    clear h_z1
    have c_z1 := (Same.refl H).trans s_z1
    have d_z1 : Dp K (hide m l G1) (.ref z1) (.tuple []) := .tup (.inl (.inl n_z1)) .nil
    refine ⟨by show 3 ≤ sizeLine; decide, fun z2 h_z2 => ?_⟩
    have s_z2 := same_new (o := .lst [V.str "put", V.int 0, V.int 0]) h_z2
    have n_z2 := hide_at (o := .lst [V.str "put", V.int 0, V.int 0]) (D.same c_z1) h_z2
    generalize upd G1 z2 (.lst [V.str "put", V.int 0, V.int 0]) = G2 at s_z2 n_z2
    clear h_z2
    have c_z2 := c_z1.trans s_z2
    have d_z2 : Dp K (hide m l G2) (.ref z2) (.list [.str "put", .int 0, .int 0]) := .lst (SqL.of n_z2) (.cons (.str _) (.cons (.int _) (.cons (.int _) .nil)))
    refine ⟨by show 1 ≤ sizeLine; decide, fun z3 h_z3 => ?_⟩
    have s_z3 := same_new (o := .tup [V.str "put"]) h_z3
    have n_z3 := hide_at (o := .tup [V.str "put"]) (D.same c_z2) h_z3
    generalize upd G2 z3 (.tup [V.str "put"]) = G3 at s_z3 n_z3
    clear h_z3
    have c_z3 := c_z2.trans s_z3
    have d_z3 : Dp K (hide m l G3) (.ref z3) (.tuple [.str "put"]) := .tup (.inl (.inl n_z3)) (.cons (.str _) .nil)
    refine ⟨by show 2 ≤ sizeLine; decide, fun z4 h_z4 => ?_⟩
    have s_z4 := same_new (o := .tup [V.str "put", V.int 0]) h_z4
    have n_z4 := hide_at (o := .tup [V.str "put", V.int 0]) (D.same c_z3) h_z4
    generalize upd G3 z4 (.tup [V.str "put", V.int 0]) = G4 at s_z4 n_z4
    clear h_z4
    have c_z4 := c_z3.trans s_z4
    have d_z4 : Dp K (hide m l G4) (.ref z4) (.tuple [.str "put", .int 0]) := .tup (.inl (.inl n_z4)) (.cons (.str _) (.cons (.int _) .nil))
    refine ⟨_, rfl, _, _, rfl, rfl, ?_⟩
    refine ⟨by show 3 ≤ sizeLine; decide, fun z5 h_z5 => ?_⟩
    have s_z5 := same_new (o := .tup [V.str "put", V.int ((row.length : Nat) + 1), V.int 0]) h_z5
    have n_z5 := hide_at (o := .tup [V.str "put", V.int ((row.length : Nat) + 1), V.int 0]) (D.same c_z4) h_z5
    generalize upd G4 z5 (.tup [V.str "put", V.int ((row.length : Nat) + 1), V.int 0]) = G5 at s_z5 n_z5
    clear h_z5
    have c_z5 := c_z4.trans s_z5
    have d_z5 : Dp K (hide m l G5) (.ref z5) (.tuple [.str "put", .int ((row.length : Nat) + 1), .int 0]) := .tup (.inl (.inl n_z5)) (.cons (.str _) (.cons (.int _) (.cons (.int _) .nil)))
    refine ⟨_, rfl, ?_⟩
    refine ⟨by show 3 ≤ sizeLine; decide, fun z6 h_z6 => ?_⟩
    have s_z6 := same_new (o := .tup [V.str "put", V.int (-1), V.int 0]) h_z6
    have n_z6 := hide_at (o := .tup [V.str "put", V.int (-1), V.int 0]) (D.same c_z5) h_z6
    generalize upd G5 z6 (.tup [V.str "put", V.int (-1), V.int 0]) = G6 at s_z6 n_z6
    clear h_z6
    have c_z6 := c_z5.trans s_z6
    have d_z6 : Dp K (hide m l G6) (.ref z6) (.tuple [.str "put", .int (-1), .int 0]) := .tup (.inl (.inl n_z6)) (.cons (.str _) (.cons (.int _) (.cons (.int _) .nil)))
    refine ⟨by show 8 ≤ sizeLine; decide, fun z7 h_z7 => ?_⟩
    have s_z7 := same_new (o := .lst [V.non, V.ref z1, V.str "put", V.ref z2, V.ref z3, V.ref z4, V.ref z5, V.ref z6]) h_z7
    have n_z7 := hide_at (o := .lst [V.non, V.ref z1, V.str "put", V.ref z2, V.ref z3, V.ref z4, V.ref z5, V.ref z6]) (D.same c_z6) h_z7
    generalize upd G6 z7 (.lst [V.non, V.ref z1, V.str "put", V.ref z2, V.ref z3, V.ref z4, V.ref z5, V.ref z6]) = G7 at s_z7 n_z7
    clear h_z7
    have c_z7 := c_z6.trans s_z7
    have hb0 : ∀ v ∈ [V.non, V.ref z1, V.str "put", V.ref z2, V.ref z3, V.ref z4, V.ref z5, V.ref z6], BadT K (hide m l G7) C row v := fun v hv => by
      simp only [List.mem_cons, List.not_mem_nil, or_false] at hv
      rcases hv with rfl | rfl | rfl | rfl | rfl | rfl | rfl | rfl
      · exact bad_ty (.base .non) (kit_ty (a := "NoneType") (b := "tuple") (r := false) (by decide +kernel))
      · exact bad_nil (dp_same (hide_same (((((s_z2.trans s_z3).trans s_z4).trans s_z5).trans s_z6).trans s_z7)) _ _ d_z1)
      · exact bad_ty (.base (.str _)) (kit_ty (a := "str") (b := "tuple") (r := false) (by decide +kernel))
      · exact bad_ty (.base (.lst (hide_same ((((s_z3.trans s_z4).trans s_z5).trans s_z6).trans s_z7) _ _ n_z2))) (kit_ty (a := "list") (b := "tuple") (r := false) (by decide +kernel))
      · exact bad_str (dp_same (hide_same (((s_z4.trans s_z5).trans s_z6).trans s_z7)) _ _ d_z3) rfl (by decide +kernel)
      · exact bad_str (dp_same (hide_same ((s_z5.trans s_z6).trans s_z7)) _ _ d_z4) rfl (by decide +kernel)
      · exact bad_put (dp_same (hide_same (s_z6.trans s_z7)) _ _ d_z5) (.inl (btw_gt (by omega)))
      · exact bad_put (dp_same (hide_same s_z7) _ _ d_z6) (.inl (btw_lt (by omega)))
    have l_z7 := hide_sub _ _ n_z7
    clear n_z7
    have hl0 : [V.non, V.ref z1, V.str "put", V.ref z2, V.ref z3, V.ref z4, V.ref z5, V.ref z6].length = 8 := rfl
    generalize [V.non, V.ref z1, V.str "put", V.ref z2, V.ref z3, V.ref z4, V.ref z5, V.ref z6] = xs0 at hb0 l_z7 hl0
    -- 2
    refine ⟨_, rfl, ?_⟩
    refine ⟨_, rfl, ?_⟩
    refine ⟨by show 3 ≤ sizeLine; decide, fun z8 h_z8 => ?_⟩
    have s_z8 := same_new (o := .tup [V.str "put", V.int 0, V.int (C.moves.length : Nat)]) h_z8
    have n_z8 := hide_at (o := .tup [V.str "put", V.int 0, V.int (C.moves.length : Nat)]) (D.same c_z7) h_z8
    generalize upd G7 z8 (.tup [V.str "put", V.int 0, V.int (C.moves.length : Nat)]) = G8 at s_z8 n_z8
    clear h_z8
    have c_z8 := c_z7.trans s_z8
    have d_z8 : Dp K (hide m l G8) (.ref z8) (.tuple [.str "put", .int 0, .int (C.moves.length : Nat)]) := .tup (.inl (.inl n_z8)) (.cons (.str _) (.cons (.int _) (.cons (.int _) .nil)))
    refine ⟨by show 3 ≤ sizeLine; decide, fun z9 h_z9 => ?_⟩
    have s_z9 := same_new (o := .tup [V.str "put", V.int 0, V.non]) h_z9
    have n_z9 := hide_at (o := .tup [V.str "put", V.int 0, V.non]) (D.same c_z8) h_z9
    generalize upd G8 z9 (.tup [V.str "put", V.int 0, V.non]) = G9 at s_z9 n_z9
    clear h_z9
    have c_z9 := c_z8.trans s_z9
    have d_z9 : Dp K (hide m l G9) (.ref z9) (.tuple [.str "put", .int 0, .none]) := .tup (.inl (.inl n_z9)) (.cons (.str _) (.cons (.int _) (.cons (.non) .nil)))
    refine ⟨by show 3 ≤ sizeLine; decide, fun z10 h_z10 => ?_⟩
    have s_z10 := same_new (o := .tup [V.str "put", V.bl true, V.int 0]) h_z10
    have n_z10 := hide_at (o := .tup [V.str "put", V.bl true, V.int 0]) (D.same c_z9) h_z10
    generalize upd G9 z10 (.tup [V.str "put", V.bl true, V.int 0]) = G10 at s_z10 n_z10
    clear h_z10
    have c_z10 := c_z9.trans s_z10
    have d_z10 : Dp K (hide m l G10) (.ref z10) (.tuple [.str "put", .bool true, .int 0]) := .tup (.inl (.inl n_z10)) (.cons (.str _) (.cons (.bl _) (.cons (.int _) .nil)))
    refine ⟨by show 3 ≤ sizeLine; decide, fun z11 h_z11 => ?_⟩
    have s_z11 := same_new (o := .tup [V.str "put", V.int 0, V.bl true]) h_z11
    have n_z11 := hide_at (o := .tup [V.str "put", V.int 0, V.bl true]) (D.same c_z10) h_z11
    generalize upd G10 z11 (.tup [V.str "put", V.int 0, V.bl true]) = G11 at s_z11 n_z11
    clear h_z11
    have c_z11 := c_z10.trans s_z11
    have d_z11 : Dp K (hide m l G11) (.ref z11) (.tuple [.str "put", .int 0, .bool true]) := .tup (.inl (.inl n_z11)) (.cons (.str _) (.cons (.int _) (.cons (.bl _) .nil)))
    refine ⟨by show 4 ≤ sizeLine; decide, fun z12 h_z12 => ?_⟩
    have s_z12 := same_new (o := .tup [V.str "put", V.int 0, V.int 0, V.int 0]) h_z12
    have n_z12 := hide_at (o := .tup [V.str "put", V.int 0, V.int 0, V.int 0]) (D.same c_z11) h_z12
    generalize upd G11 z12 (.tup [V.str "put", V.int 0, V.int 0, V.int 0]) = G12 at s_z12 n_z12
    clear h_z12
    have c_z12 := c_z11.trans s_z12
    have d_z12 : Dp K (hide m l G12) (.ref z12) (.tuple [.str "put", .int 0, .int 0, .int 0]) := .tup (.inl (.inl n_z12)) (.cons (.str _) (.cons (.int _) (.cons (.int _) (.cons (.int _) .nil))))
    refine ⟨by show 5 ≤ sizeLine; decide, fun z13 h_z13 => ?_⟩
    have s_z13 := same_new (o := .lst [V.ref z8, V.ref z9, V.ref z10, V.ref z11, V.ref z12]) h_z13
    have n_z13 := hide_at (o := .lst [V.ref z8, V.ref z9, V.ref z10, V.ref z11, V.ref z12]) (D.same c_z12) h_z13
    generalize upd G12 z13 (.lst [V.ref z8, V.ref z9, V.ref z10, V.ref z11, V.ref z12]) = G13 at s_z13 n_z13
    clear h_z13
    have c_z13 := c_z12.trans s_z13
    have hb1 : ∀ v ∈ [V.ref z8, V.ref z9, V.ref z10, V.ref z11, V.ref z12], BadT K (hide m l G13) C row v := fun v hv => by
      simp only [List.mem_cons, List.not_mem_nil, or_false] at hv
      rcases hv with rfl | rfl | rfl | rfl | rfl
      · exact bad_put (dp_same (hide_same ((((s_z9.trans s_z10).trans s_z11).trans s_z12).trans s_z13)) _ _ d_z8) (.inr (btw_gt (by omega)))
      · exact bad_put (dp_same (hide_same (((s_z10.trans s_z11).trans s_z12).trans s_z13)) _ _ d_z9) (.inr (rfl))
      · exact bad_put (dp_same (hide_same ((s_z11.trans s_z12).trans s_z13)) _ _ d_z10) (.inl (rfl))
      · exact bad_put (dp_same (hide_same (s_z12.trans s_z13)) _ _ d_z11) (.inr (rfl))
      · exact bad_str (dp_same (hide_same s_z13) _ _ d_z12) rfl (by decide +kernel)
    have l_z13 := hide_sub _ _ n_z13
    clear n_z13
    have hl1n : [V.ref z8, V.ref z9, V.ref z10, V.ref z11, V.ref z12].length = 5 := rfl
    generalize [V.ref z8, V.ref z9, V.ref z10, V.ref z11, V.ref z12] = ys1 at hb1 l_z13 hl1n
    refine ⟨z7, z13, xs0, ys1, rfl, rfl, (((((s_z8.trans s_z9).trans s_z10).trans s_z11).trans s_z12).trans s_z13) _ _ l_z7, l_z13, sz_line (by omega), fun z14 h_z14 => ?_⟩
    have s_z14 := same_new (o := .lst (xs0 ++ ys1)) h_z14
    have l_z14 : (upd G13 z14 (.lst (xs0 ++ ys1))) z14 = some (.lst (xs0 ++ ys1)) := upd_same
    have hb1c : ∀ v ∈ xs0 ++ ys1, BadT K (hide m l (upd G13 z14 (.lst (xs0 ++ ys1)))) C row v := fun v hv => by
      rcases List.mem_append.mp hv with hv | hv
      · exact (hb0 v hv).same (hide_same ((((((s_z8.trans s_z9).trans s_z10).trans s_z11).trans s_z12).trans s_z13).trans s_z14))
      · exact (hb1 v hv).same (hide_same s_z14)
    have hl1 : (xs0 ++ ys1).length = 13 := by rw [List.length_append]; omega
    have nq_z14 := NQ.new (D.same c_z13) h_z14
    generalize upd G13 z14 (.lst (xs0 ++ ys1)) = G14 at s_z14 l_z14 hb1c
    have c_z14 := c_z13.trans s_z14
    generalize xs0 ++ ys1 = xs1 at hb1c l_z14 hl1
    -- 3
    refine ⟨_, rfl, ?_⟩
    refine ⟨_, rfl, ?_⟩
    refine ⟨by show 3 ≤ sizeLine; decide, fun z15 h_z15 => ?_⟩
    have s_z15 := same_new (o := .tup [V.str "set", V.int (row.length : Nat), V.int 0]) h_z15
    have n_z15 := hide_at (o := .tup [V.str "set", V.int (row.length : Nat), V.int 0]) (D.same c_z14) h_z15
    generalize upd G14 z15 (.tup [V.str "set", V.int (row.length : Nat), V.int 0]) = G15 at s_z15 n_z15
    clear h_z15
    have c_z15 := c_z14.trans s_z15
    have d_z15 : Dp K (hide m l G15) (.ref z15) (.tuple [.str "set", .int (row.length : Nat), .int 0]) := .tup (.inl (.inl n_z15)) (.cons (.str _) (.cons (.int _) (.cons (.int _) .nil)))
    refine ⟨_, rfl, ?_⟩
    refine ⟨by show 3 ≤ sizeLine; decide, fun z16 h_z16 => ?_⟩
    have s_z16 := same_new (o := .tup [V.str "set", V.int (-1), V.int 0]) h_z16
    have n_z16 := hide_at (o := .tup [V.str "set", V.int (-1), V.int 0]) (D.same c_z15) h_z16
    generalize upd G15 z16 (.tup [V.str "set", V.int (-1), V.int 0]) = G16 at s_z16 n_z16
    clear h_z16
    have c_z16 := c_z15.trans s_z16
    have d_z16 : Dp K (hide m l G16) (.ref z16) (.tuple [.str "set", .int (-1), .int 0]) := .tup (.inl (.inl n_z16)) (.cons (.str _) (.cons (.int _) (.cons (.int _) .nil)))
    refine ⟨_, rfl, ?_⟩
    refine ⟨by show 3 ≤ sizeLine; decide, fun z17 h_z17 => ?_⟩
    have s_z17 := same_new (o := .tup [V.str "set", V.int 0, V.int (C.moves.length : Nat)]) h_z17
    have n_z17 := hide_at (o := .tup [V.str "set", V.int 0, V.int (C.moves.length : Nat)]) (D.same c_z16) h_z17
    generalize upd G16 z17 (.tup [V.str "set", V.int 0, V.int (C.moves.length : Nat)]) = G17 at s_z17 n_z17
    clear h_z17
    have c_z17 := c_z16.trans s_z17
    have d_z17 : Dp K (hide m l G17) (.ref z17) (.tuple [.str "set", .int 0, .int (C.moves.length : Nat)]) := .tup (.inl (.inl n_z17)) (.cons (.str _) (.cons (.int _) (.cons (.int _) .nil)))
    refine ⟨by show 3 ≤ sizeLine; decide, fun z18 h_z18 => ?_⟩
    have s_z18 := same_new (o := .tup [V.str "set", V.str "0", V.int 0]) h_z18
    have n_z18 := hide_at (o := .tup [V.str "set", V.str "0", V.int 0]) (D.same c_z17) h_z18
    generalize upd G17 z18 (.tup [V.str "set", V.str "0", V.int 0]) = G18 at s_z18 n_z18
    clear h_z18
    have c_z18 := c_z17.trans s_z18
    have d_z18 : Dp K (hide m l G18) (.ref z18) (.tuple [.str "set", .str "0", .int 0]) := .tup (.inl (.inl n_z18)) (.cons (.str _) (.cons (.str _) (.cons (.int _) .nil)))
    refine ⟨_, rfl, ?_⟩
    refine ⟨by show 3 ≤ sizeLine; decide, fun z19 h_z19 => ?_⟩
    have s_z19 := same_new (o := .tup [V.str "set", V.int 0, V.int (-1)]) h_z19
    have n_z19 := hide_at (o := .tup [V.str "set", V.int 0, V.int (-1)]) (D.same c_z18) h_z19
    generalize upd G18 z19 (.tup [V.str "set", V.int 0, V.int (-1)]) = G19 at s_z19 n_z19
    clear h_z19
    have c_z19 := c_z18.trans s_z19
    have d_z19 : Dp K (hide m l G19) (.ref z19) (.tuple [.str "set", .int 0, .int (-1)]) := .tup (.inl (.inl n_z19)) (.cons (.str _) (.cons (.int _) (.cons (.int _) .nil)))
    refine ⟨by show 2 ≤ sizeLine; decide, fun z20 h_z20 => ?_⟩
    have s_z20 := same_new (o := .tup [V.str "set", V.int 0]) h_z20
    have n_z20 := hide_at (o := .tup [V.str "set", V.int 0]) (D.same c_z19) h_z20
    generalize upd G19 z20 (.tup [V.str "set", V.int 0]) = G20 at s_z20 n_z20
    clear h_z20
    have c_z20 := c_z19.trans s_z20
    have d_z20 : Dp K (hide m l G20) (.ref z20) (.tuple [.str "set", .int 0]) := .tup (.inl (.inl n_z20)) (.cons (.str _) (.cons (.int _) .nil))
    refine ⟨by show 6 ≤ sizeLine; decide, fun z21 h_z21 => ?_⟩
    have s_z21 := same_new (o := .lst [V.ref z15, V.ref z16, V.ref z17, V.ref z18, V.ref z19, V.ref z20]) h_z21
    have n_z21 := hide_at (o := .lst [V.ref z15, V.ref z16, V.ref z17, V.ref z18, V.ref z19, V.ref z20]) (D.same c_z20) h_z21
    generalize upd G20 z21 (.lst [V.ref z15, V.ref z16, V.ref z17, V.ref z18, V.ref z19, V.ref z20]) = G21 at s_z21 n_z21
    clear h_z21
    have c_z21 := c_z20.trans s_z21
    have hb2 : ∀ v ∈ [V.ref z15, V.ref z16, V.ref z17, V.ref z18, V.ref z19, V.ref z20], BadT K (hide m l G21) C row v := fun v hv => by
      simp only [List.mem_cons, List.not_mem_nil, or_false] at hv
      rcases hv with rfl | rfl | rfl | rfl | rfl | rfl
      · exact bad_set (dp_same (hide_same (((((s_z16.trans s_z17).trans s_z18).trans s_z19).trans s_z20).trans s_z21)) _ _ d_z15) (.inl (btw_gt (by omega)))
      · exact bad_set (dp_same (hide_same ((((s_z17.trans s_z18).trans s_z19).trans s_z20).trans s_z21)) _ _ d_z16) (.inl (btw_lt (by omega)))
      · exact bad_set (dp_same (hide_same (((s_z18.trans s_z19).trans s_z20).trans s_z21)) _ _ d_z17) (.inr (btw_gt (by omega)))
      · exact bad_set (dp_same (hide_same ((s_z19.trans s_z20).trans s_z21)) _ _ d_z18) (.inl (rfl))
      · exact bad_set (dp_same (hide_same (s_z20.trans s_z21)) _ _ d_z19) (.inr (btw_lt (by omega)))
      · exact bad_str (dp_same (hide_same s_z21) _ _ d_z20) rfl (by decide +kernel)
    have l_z21 := hide_sub _ _ n_z21
    clear n_z21
    have hl2n : [V.ref z15, V.ref z16, V.ref z17, V.ref z18, V.ref z19, V.ref z20].length = 6 := rfl
    generalize [V.ref z15, V.ref z16, V.ref z17, V.ref z18, V.ref z19, V.ref z20] = ys2 at hb2 l_z21 hl2n
    refine ⟨z14, z21, xs1, ys2, rfl, rfl, ((((((s_z15.trans s_z16).trans s_z17).trans s_z18).trans s_z19).trans s_z20).trans s_z21) _ _ l_z14, l_z21, sz_line (by omega), fun z22 h_z22 => ?_⟩
    have s_z22 := same_new (o := .lst (xs1 ++ ys2)) h_z22
    have l_z22 : (upd G21 z22 (.lst (xs1 ++ ys2))) z22 = some (.lst (xs1 ++ ys2)) := upd_same
    have hb2c : ∀ v ∈ xs1 ++ ys2, BadT K (hide m l (upd G21 z22 (.lst (xs1 ++ ys2)))) C row v := fun v hv => by
      rcases List.mem_append.mp hv with hv | hv
      · exact (hb1c v hv).same (hide_same (((((((s_z15.trans s_z16).trans s_z17).trans s_z18).trans s_z19).trans s_z20).trans s_z21).trans s_z22))
      · exact (hb2 v hv).same (hide_same s_z22)
    have hl2 : (xs1 ++ ys2).length = 19 := by rw [List.length_append]; omega
    have nq_z22 := NQ.new (D.same c_z21) h_z22
    generalize upd G21 z22 (.lst (xs1 ++ ys2)) = G22 at s_z22 l_z22 hb2c
    have c_z22 := c_z21.trans s_z22
    generalize xs1 ++ ys2 = xs2 at hb2c l_z22 hl2
    -- 4
    refine ⟨_, rfl, ?_⟩
    refine ⟨by show 3 ≤ sizeLine; decide, fun z23 h_z23 => ?_⟩
    have s_z23 := same_new (o := .tup [V.str "cut", V.int 0, V.int 0]) h_z23
    have n_z23 := hide_at (o := .tup [V.str "cut", V.int 0, V.int 0]) (D.same c_z22) h_z23
    generalize upd G22 z23 (.tup [V.str "cut", V.int 0, V.int 0]) = G23 at s_z23 n_z23
    clear h_z23
    have c_z23 := c_z22.trans s_z23
    have d_z23 : Dp K (hide m l G23) (.ref z23) (.tuple [.str "cut", .int 0, .int 0]) := .tup (.inl (.inl n_z23)) (.cons (.str _) (.cons (.int _) (.cons (.int _) .nil)))
    refine ⟨_, rfl, ?_⟩
    refine ⟨_, rfl, ?_⟩
    refine ⟨by show 3 ≤ sizeLine; decide, fun z24 h_z24 => ?_⟩
    have s_z24 := same_new (o := .tup [V.str "cut", V.int (row.length : Nat), V.int (row.length : Nat)]) h_z24
    have n_z24 := hide_at (o := .tup [V.str "cut", V.int (row.length : Nat), V.int (row.length : Nat)]) (D.same c_z23) h_z24
    generalize upd G23 z24 (.tup [V.str "cut", V.int (row.length : Nat), V.int (row.length : Nat)]) = G24 at s_z24 n_z24
    clear h_z24
    have c_z24 := c_z23.trans s_z24
    have d_z24 : Dp K (hide m l G24) (.ref z24) (.tuple [.str "cut", .int (row.length : Nat), .int (row.length : Nat)]) := .tup (.inl (.inl n_z24)) (.cons (.str _) (.cons (.int _) (.cons (.int _) .nil)))
    refine ⟨_, rfl, _, _, rfl, rfl, ?_⟩
    refine ⟨by show 3 ≤ sizeLine; decide, fun z25 h_z25 => ?_⟩
    have s_z25 := same_new (o := .tup [V.str "cut", V.int 0, V.int ((row.length : Nat) + 1)]) h_z25
    have n_z25 := hide_at (o := .tup [V.str "cut", V.int 0, V.int ((row.length : Nat) + 1)]) (D.same c_z24) h_z25
    generalize upd G24 z25 (.tup [V.str "cut", V.int 0, V.int ((row.length : Nat) + 1)]) = G25 at s_z25 n_z25
    clear h_z25
    have c_z25 := c_z24.trans s_z25
    have d_z25 : Dp K (hide m l G25) (.ref z25) (.tuple [.str "cut", .int 0, .int ((row.length : Nat) + 1)]) := .tup (.inl (.inl n_z25)) (.cons (.str _) (.cons (.int _) (.cons (.int _) .nil)))
    refine ⟨_, rfl, ?_⟩
    refine ⟨_, rfl, ?_⟩
    refine ⟨by show 3 ≤ sizeLine; decide, fun z26 h_z26 => ?_⟩
    have s_z26 := same_new (o := .tup [V.str "cut", V.int (-1), V.int (row.length : Nat)]) h_z26
    have n_z26 := hide_at (o := .tup [V.str "cut", V.int (-1), V.int (row.length : Nat)]) (D.same c_z25) h_z26
    generalize upd G25 z26 (.tup [V.str "cut", V.int (-1), V.int (row.length : Nat)]) = G26 at s_z26 n_z26
    clear h_z26
    have c_z26 := c_z25.trans s_z26
    have d_z26 : Dp K (hide m l G26) (.ref z26) (.tuple [.str "cut", .int (-1), .int (row.length : Nat)]) := .tup (.inl (.inl n_z26)) (.cons (.str _) (.cons (.int _) (.cons (.int _) .nil)))
    refine ⟨by show 3 ≤ sizeLine; decide, fun z27 h_z27 => ?_⟩
    have s_z27 := same_new (o := .tup [V.str "cut", V.int 1, V.int 0]) h_z27
    have n_z27 := hide_at (o := .tup [V.str "cut", V.int 1, V.int 0]) (D.same c_z26) h_z27
    generalize upd G26 z27 (.tup [V.str "cut", V.int 1, V.int 0]) = G27 at s_z27 n_z27
    clear h_z27
    have c_z27 := c_z26.trans s_z27
    have d_z27 : Dp K (hide m l G27) (.ref z27) (.tuple [.str "cut", .int 1, .int 0]) := .tup (.inl (.inl n_z27)) (.cons (.str _) (.cons (.int _) (.cons (.int _) .nil)))
    refine ⟨by show 5 ≤ sizeLine; decide, fun z28 h_z28 => ?_⟩
    have s_z28 := same_new (o := .lst [V.ref z23, V.ref z24, V.ref z25, V.ref z26, V.ref z27]) h_z28
    have n_z28 := hide_at (o := .lst [V.ref z23, V.ref z24, V.ref z25, V.ref z26, V.ref z27]) (D.same c_z27) h_z28
    generalize upd G27 z28 (.lst [V.ref z23, V.ref z24, V.ref z25, V.ref z26, V.ref z27]) = G28 at s_z28 n_z28
    clear h_z28
    have c_z28 := c_z27.trans s_z28
    have hb3 : ∀ v ∈ [V.ref z23, V.ref z24, V.ref z25, V.ref z26, V.ref z27], BadT K (hide m l G28) C row v := fun v hv => by
      simp only [List.mem_cons, List.not_mem_nil, or_false] at hv
      rcases hv with rfl | rfl | rfl | rfl | rfl
      · exact bad_cut (dp_same (hide_same ((((s_z24.trans s_z25).trans s_z26).trans s_z27).trans s_z28)) _ _ d_z23) (.inl (btw_lt (by omega)))
      · exact bad_cutI (dp_same (hide_same (((s_z25.trans s_z26).trans s_z27).trans s_z28)) _ _ d_z24) (btw_gt (by omega))
      · exact bad_cut (dp_same (hide_same ((s_z26.trans s_z27).trans s_z28)) _ _ d_z25) (.inl (btw_gt (by omega)))
      · exact bad_cutI (dp_same (hide_same (s_z27.trans s_z28)) _ _ d_z26) (btw_lt (by omega))
      · exact bad_cut (dp_same (hide_same s_z28) _ _ d_z27) (.inl (btw_lt (by omega)))
    have l_z28 := hide_sub _ _ n_z28
    clear n_z28
    have hl3n : [V.ref z23, V.ref z24, V.ref z25, V.ref z26, V.ref z27].length = 5 := rfl
    generalize [V.ref z23, V.ref z24, V.ref z25, V.ref z26, V.ref z27] = ys3 at hb3 l_z28 hl3n
    refine ⟨z22, z28, xs2, ys3, rfl, rfl, (((((s_z23.trans s_z24).trans s_z25).trans s_z26).trans s_z27).trans s_z28) _ _ l_z22, l_z28, sz_line (by omega), fun z29 h_z29 => ?_⟩
    have s_z29 := same_new (o := .lst (xs2 ++ ys3)) h_z29
    have l_z29 : (upd G28 z29 (.lst (xs2 ++ ys3))) z29 = some (.lst (xs2 ++ ys3)) := upd_same
    have hb3c : ∀ v ∈ xs2 ++ ys3, BadT K (hide m l (upd G28 z29 (.lst (xs2 ++ ys3)))) C row v := fun v hv => by
      rcases List.mem_append.mp hv with hv | hv
      · exact (hb2c v hv).same (hide_same ((((((s_z23.trans s_z24).trans s_z25).trans s_z26).trans s_z27).trans s_z28).trans s_z29))
      · exact (hb3 v hv).same (hide_same s_z29)
    have hl3 : (xs2 ++ ys3).length = 24 := by rw [List.length_append]; omega
    have nq_z29 := NQ.new (D.same c_z28) h_z29
    generalize upd G28 z29 (.lst (xs2 ++ ys3)) = G29 at s_z29 l_z29 hb3c
    have c_z29 := c_z28.trans s_z29
    generalize xs2 ++ ys3 = xs3 at hb3c l_z29 hl3
    -- 5
    refine ⟨_, rfl, ?_⟩
    refine ⟨by show 3 ≤ sizeLine; decide, fun z30 h_z30 => ?_⟩
    have s_z30 := same_new (o := .tup [V.str "cut", V.int 0, V.non]) h_z30
    have n_z30 := hide_at (o := .tup [V.str "cut", V.int 0, V.non]) (D.same c_z29) h_z30
    generalize upd G29 z30 (.tup [V.str "cut", V.int 0, V.non]) = G30 at s_z30 n_z30
    clear h_z30
    have c_z30 := c_z29.trans s_z30
    have d_z30 : Dp K (hide m l G30) (.ref z30) (.tuple [.str "cut", .int 0, .none]) := .tup (.inl (.inl n_z30)) (.cons (.str _) (.cons (.int _) (.cons (.non) .nil)))
    refine ⟨by show 3 ≤ sizeLine; decide, fun z31 h_z31 => ?_⟩
    have s_z31 := same_new (o := .tup [V.str "cut", V.bl false, V.int 1]) h_z31
    have n_z31 := hide_at (o := .tup [V.str "cut", V.bl false, V.int 1]) (D.same c_z30) h_z31
    generalize upd G30 z31 (.tup [V.str "cut", V.bl false, V.int 1]) = G31 at s_z31 n_z31
    clear h_z31
    have c_z31 := c_z30.trans s_z31
    have d_z31 : Dp K (hide m l G31) (.ref z31) (.tuple [.str "cut", .bool false, .int 1]) := .tup (.inl (.inl n_z31)) (.cons (.str _) (.cons (.bl _) (.cons (.int _) .nil)))
    refine ⟨by show 2 ≤ sizeLine; decide, fun z32 h_z32 => ?_⟩
    have s_z32 := same_new (o := .tup [V.str "cut", V.int 0]) h_z32
    have n_z32 := hide_at (o := .tup [V.str "cut", V.int 0]) (D.same c_z31) h_z32
    generalize upd G31 z32 (.tup [V.str "cut", V.int 0]) = G32 at s_z32 n_z32
    clear h_z32
    have c_z32 := c_z31.trans s_z32
    have d_z32 : Dp K (hide m l G32) (.ref z32) (.tuple [.str "cut", .int 0]) := .tup (.inl (.inl n_z32)) (.cons (.str _) (.cons (.int _) .nil))
    refine ⟨by show 1 ≤ sizeLine; decide, fun z33 h_z33 => ?_⟩
    have s_z33 := same_new (o := .tup [V.str "from"]) h_z33
    have n_z33 := hide_at (o := .tup [V.str "from"]) (D.same c_z32) h_z33
    generalize upd G32 z33 (.tup [V.str "from"]) = G33 at s_z33 n_z33
    clear h_z33
    have c_z33 := c_z32.trans s_z33
    have d_z33 : Dp K (hide m l G33) (.ref z33) (.tuple [.str "from"]) := .tup (.inl (.inl n_z33)) (.cons (.str _) .nil)
    refine ⟨by show 2 ≤ sizeLine; decide, fun z34 h_z34 => ?_⟩
    have s_z34 := same_new (o := .tup [V.str "from", V.non]) h_z34
    have n_z34 := hide_at (o := .tup [V.str "from", V.non]) (D.same c_z33) h_z34
    generalize upd G33 z34 (.tup [V.str "from", V.non]) = G34 at s_z34 n_z34
    clear h_z34
    have c_z34 := c_z33.trans s_z34
    have d_z34 : Dp K (hide m l G34) (.ref z34) (.tuple [.str "from", .none]) := .tup (.inl (.inl n_z34)) (.cons (.str _) (.cons (.non) .nil))
    refine ⟨by show 2 ≤ sizeLine; decide, fun z35 h_z35 => ?_⟩
    have s_z35 := same_new (o := .tup [V.str "from", V.int 0]) h_z35
    have n_z35 := hide_at (o := .tup [V.str "from", V.int 0]) (D.same c_z34) h_z35
    generalize upd G34 z35 (.tup [V.str "from", V.int 0]) = G35 at s_z35 n_z35
    clear h_z35
    have c_z35 := c_z34.trans s_z35
    have d_z35 : Dp K (hide m l G35) (.ref z35) (.tuple [.str "from", .int 0]) := .tup (.inl (.inl n_z35)) (.cons (.str _) (.cons (.int _) .nil))
    refine ⟨by show 6 ≤ sizeLine; decide, fun z36 h_z36 => ?_⟩
    have s_z36 := same_new (o := .lst [V.ref z30, V.ref z31, V.ref z32, V.ref z33, V.ref z34, V.ref z35]) h_z36
    have n_z36 := hide_at (o := .lst [V.ref z30, V.ref z31, V.ref z32, V.ref z33, V.ref z34, V.ref z35]) (D.same c_z35) h_z36
    generalize upd G35 z36 (.lst [V.ref z30, V.ref z31, V.ref z32, V.ref z33, V.ref z34, V.ref z35]) = G36 at s_z36 n_z36
    clear h_z36
    have c_z36 := c_z35.trans s_z36
    have hb4 : ∀ v ∈ [V.ref z30, V.ref z31, V.ref z32, V.ref z33, V.ref z34, V.ref z35], BadT K (hide m l G36) C row v := fun v hv => by
      simp only [List.mem_cons, List.not_mem_nil, or_false] at hv
      rcases hv with rfl | rfl | rfl | rfl | rfl | rfl
      · exact bad_cut (dp_same (hide_same (((((s_z31.trans s_z32).trans s_z33).trans s_z34).trans s_z35).trans s_z36)) _ _ d_z30) (.inl (rfl))
      · exact bad_cutI (dp_same (hide_same ((((s_z32.trans s_z33).trans s_z34).trans s_z35).trans s_z36)) _ _ d_z31) (rfl)
      · exact bad_str (dp_same (hide_same (((s_z33.trans s_z34).trans s_z35).trans s_z36)) _ _ d_z32) rfl (by decide +kernel)
      · exact bad_str (dp_same (hide_same ((s_z34.trans s_z35).trans s_z36)) _ _ d_z33) rfl (by decide +kernel)
      · exact bad_from (dp_same (hide_same (s_z35.trans s_z36)) _ _ d_z34) (rfl)
      · exact bad_from (dp_same (hide_same s_z36) _ _ d_z35) (rfl)
    have l_z36 := hide_sub _ _ n_z36
    clear n_z36
    have hl4n : [V.ref z30, V.ref z31, V.ref z32, V.ref z33, V.ref z34, V.ref z35].length = 6 := rfl
    generalize [V.ref z30, V.ref z31, V.ref z32, V.ref z33, V.ref z34, V.ref z35] = ys4 at hb4 l_z36 hl4n
    refine ⟨z29, z36, xs3, ys4, rfl, rfl, ((((((s_z30.trans s_z31).trans s_z32).trans s_z33).trans s_z34).trans s_z35).trans s_z36) _ _ l_z29, l_z36, sz_line (by omega), fun z37 h_z37 => ?_⟩
    have s_z37 := same_new (o := .lst (xs3 ++ ys4)) h_z37
    have l_z37 : (upd G36 z37 (.lst (xs3 ++ ys4))) z37 = some (.lst (xs3 ++ ys4)) := upd_same
    have hb4c : ∀ v ∈ xs3 ++ ys4, BadT K (hide m l (upd G36 z37 (.lst (xs3 ++ ys4)))) C row v := fun v hv => by
      rcases List.mem_append.mp hv with hv | hv
      · exact (hb3c v hv).same (hide_same (((((((s_z30.trans s_z31).trans s_z32).trans s_z33).trans s_z34).trans s_z35).trans s_z36).trans s_z37))
      · exact (hb4 v hv).same (hide_same s_z37)
    have hl4 : (xs3 ++ ys4).length = 30 := by rw [List.length_append]; omega
    have nq_z37 := NQ.new (D.same c_z36) h_z37
    generalize upd G36 z37 (.lst (xs3 ++ ys4)) = G37 at s_z37 l_z37 hb4c
    have c_z37 := c_z36.trans s_z37
    generalize xs3 ++ ys4 = xs4 at hb4c l_z37 hl4
    -- 6
    refine ⟨_, rfl, ?_⟩
    refine ⟨_, rfl, ca, _, 1, _, rfl, rfl, same_tup c_z37 hca, atI_nat (j := 1) rfl, _, _, rfl, rfl, ?_⟩
    refine ⟨by show 2 ≤ sizeLine; decide, fun z38 h_z38 => ?_⟩
    have s_z38 := same_new (o := .tup [V.int (C.high + 1), V.int 0]) h_z38
    have n_z38 := hide_at (o := .tup [V.int (C.high + 1), V.int 0]) (D.same c_z37) h_z38
    generalize upd G37 z38 (.tup [V.int (C.high + 1), V.int 0]) = G38 at s_z38 n_z38
    clear h_z38
    have c_z38 := c_z37.trans s_z38
    have d_z38 : Dp K (hide m l G38) (.ref z38) (.tuple [.int (C.high + 1), .int 0]) := .tup (.inl (.inl n_z38)) (.cons (.int _) (.cons (.int _) .nil))
    refine ⟨by show 2 ≤ sizeLine; decide, fun z39 h_z39 => ?_⟩
    have s_z39 := same_new (o := .tup [V.str "from", V.ref z38]) h_z39
    have n_z39 := hide_at (o := .tup [V.str "from", V.ref z38]) (D.same c_z38) h_z39
    generalize upd G38 z39 (.tup [V.str "from", V.ref z38]) = G39 at s_z39 n_z39
    clear h_z39
    have c_z39 := c_z38.trans s_z39
    have d_z39 : Dp K (hide m l G39) (.ref z39) (.tuple [.str "from", .tuple [.int (C.high + 1), .int 0]]) := .tup (.inl (.inl n_z39)) (.cons (.str _) (.cons (dp_same (hide_same s_z39) _ _ d_z38) .nil))
    refine ⟨_, rfl, ca, _, 2, _, rfl, rfl, same_tup c_z39 hca, atI_nat (j := 2) rfl, csa, _, rfl, .inr (same_tup c_z39 hcs), ?_⟩
    rw [show (C.steps.map V.int).length = C.steps.length from List.length_map ..]
    refine ⟨by show 2 ≤ sizeLine; decide, fun z40 h_z40 => ?_⟩
    have s_z40 := same_new (o := .tup [V.int 0, V.int (C.steps.length : Nat)]) h_z40
    have n_z40 := hide_at (o := .tup [V.int 0, V.int (C.steps.length : Nat)]) (D.same c_z39) h_z40
    generalize upd G39 z40 (.tup [V.int 0, V.int (C.steps.length : Nat)]) = G40 at s_z40 n_z40
    clear h_z40
    have c_z40 := c_z39.trans s_z40
    have d_z40 : Dp K (hide m l G40) (.ref z40) (.tuple [.int 0, .int (C.steps.length : Nat)]) := .tup (.inl (.inl n_z40)) (.cons (.int _) (.cons (.int _) .nil))
    refine ⟨by show 2 ≤ sizeLine; decide, fun z41 h_z41 => ?_⟩
    have s_z41 := same_new (o := .tup [V.str "from", V.ref z40]) h_z41
    have n_z41 := hide_at (o := .tup [V.str "from", V.ref z40]) (D.same c_z40) h_z41
    generalize upd G40 z41 (.tup [V.str "from", V.ref z40]) = G41 at s_z41 n_z41
    clear h_z41
    have c_z41 := c_z40.trans s_z41
    have d_z41 : Dp K (hide m l G41) (.ref z41) (.tuple [.str "from", .tuple [.int 0, .int (C.steps.length : Nat)]]) := .tup (.inl (.inl n_z41)) (.cons (.str _) (.cons (dp_same (hide_same s_z41) _ _ d_z40) .nil))
    refine ⟨by show 2 ≤ sizeLine; decide, fun z42 h_z42 => ?_⟩
    have s_z42 := same_new (o := .tup [V.int 0, V.int 0]) h_z42
    have n_z42 := hide_at (o := .tup [V.int 0, V.int 0]) (D.same c_z41) h_z42
    generalize upd G41 z42 (.tup [V.int 0, V.int 0]) = G42 at s_z42 n_z42
    clear h_z42
    have c_z42 := c_z41.trans s_z42
    have d_z42 : Dp K (hide m l G42) (.ref z42) (.tuple [.int 0, .int 0]) := .tup (.inl (.inl n_z42)) (.cons (.int _) (.cons (.int _) .nil))
    refine ⟨by show 3 ≤ sizeLine; decide, fun z43 h_z43 => ?_⟩
    have s_z43 := same_new (o := .tup [V.str "from", V.ref z42, V.int 0]) h_z43
    have n_z43 := hide_at (o := .tup [V.str "from", V.ref z42, V.int 0]) (D.same c_z42) h_z43
    generalize upd G42 z43 (.tup [V.str "from", V.ref z42, V.int 0]) = G43 at s_z43 n_z43
    clear h_z43
    have c_z43 := c_z42.trans s_z43
    have d_z43 : Dp K (hide m l G43) (.ref z43) (.tuple [.str "from", .tuple [.int 0, .int 0], .int 0]) := .tup (.inl (.inl n_z43)) (.cons (.str _) (.cons (dp_same (hide_same s_z43) _ _ d_z42) (.cons (.int _) .nil)))
    refine ⟨by show 2 ≤ sizeLine; decide, fun z44 h_z44 => ?_⟩
    have s_z44 := same_new (o := .lst [V.int 0, V.int 0]) h_z44
    have n_z44 := hide_at (o := .lst [V.int 0, V.int 0]) (D.same c_z43) h_z44
    generalize upd G43 z44 (.lst [V.int 0, V.int 0]) = G44 at s_z44 n_z44
    clear h_z44
    have c_z44 := c_z43.trans s_z44
    have d_z44 : Dp K (hide m l G44) (.ref z44) (.list [.int 0, .int 0]) := .lst (SqL.of n_z44) (.cons (.int _) (.cons (.int _) .nil))
    refine ⟨by show 2 ≤ sizeLine; decide, fun z45 h_z45 => ?_⟩
    have s_z45 := same_new (o := .tup [V.str "from", V.ref z44]) h_z45
    have n_z45 := hide_at (o := .tup [V.str "from", V.ref z44]) (D.same c_z44) h_z45
    generalize upd G44 z45 (.tup [V.str "from", V.ref z44]) = G45 at s_z45 n_z45
    clear h_z45
    have c_z45 := c_z44.trans s_z45
    have d_z45 : Dp K (hide m l G45) (.ref z45) (.tuple [.str "from", .list [.int 0, .int 0]]) := .tup (.inl (.inl n_z45)) (.cons (.str _) (.cons (dp_same (hide_same s_z45) _ _ d_z44) .nil))
    refine ⟨by show 4 ≤ sizeLine; decide, fun z46 h_z46 => ?_⟩
    have s_z46 := same_new (o := .lst [V.ref z39, V.ref z41, V.ref z43, V.ref z45]) h_z46
    have n_z46 := hide_at (o := .lst [V.ref z39, V.ref z41, V.ref z43, V.ref z45]) (D.same c_z45) h_z46
    generalize upd G45 z46 (.lst [V.ref z39, V.ref z41, V.ref z43, V.ref z45]) = G46 at s_z46 n_z46
    clear h_z46
    have c_z46 := c_z45.trans s_z46
    have hb5 : ∀ v ∈ [V.ref z39, V.ref z41, V.ref z43, V.ref z45], BadT K (hide m l G46) C row v := fun v hv => by
      simp only [List.mem_cons, List.not_mem_nil, or_false] at hv
      rcases hv with rfl | rfl | rfl | rfl
      · exact bad_from (dp_same (hide_same ((((((s_z40.trans s_z41).trans s_z42).trans s_z43).trans s_z44).trans s_z45).trans s_z46)) _ _ d_z39) (st_l (btw_gt (by omega)))
      · exact bad_from (dp_same (hide_same ((((s_z42.trans s_z43).trans s_z44).trans s_z45).trans s_z46)) _ _ d_z41) (st_r)
      · exact bad_str (dp_same (hide_same ((s_z44.trans s_z45).trans s_z46)) _ _ d_z43) rfl (by decide +kernel)
      · exact bad_from (dp_same (hide_same s_z46) _ _ d_z45) (rfl)
    have l_z46 := hide_sub _ _ n_z46
    clear n_z46
    have hl5n : [V.ref z39, V.ref z41, V.ref z43, V.ref z45].length = 4 := rfl
    generalize [V.ref z39, V.ref z41, V.ref z43, V.ref z45] = ys5 at hb5 l_z46 hl5n
    refine ⟨z37, z46, xs4, ys5, rfl, rfl, ((((((((s_z38.trans s_z39).trans s_z40).trans s_z41).trans s_z42).trans s_z43).trans s_z44).trans s_z45).trans s_z46) _ _ l_z37, l_z46, sz_line (by omega), fun z47 h_z47 => ?_⟩
    have s_z47 := same_new (o := .lst (xs4 ++ ys5)) h_z47
    have l_z47 : (upd G46 z47 (.lst (xs4 ++ ys5))) z47 = some (.lst (xs4 ++ ys5)) := upd_same
    have hb5c : ∀ v ∈ xs4 ++ ys5, BadT K (hide m l (upd G46 z47 (.lst (xs4 ++ ys5)))) C row v := fun v hv => by
      rcases List.mem_append.mp hv with hv | hv
      · exact (hb4c v hv).same (hide_same (((((((((s_z38.trans s_z39).trans s_z40).trans s_z41).trans s_z42).trans s_z43).trans s_z44).trans s_z45).trans s_z46).trans s_z47))
      · exact (hb5 v hv).same (hide_same s_z47)
    have hl5 : (xs4 ++ ys5).length = 34 := by rw [List.length_append]; omega
    have nq_z47 := NQ.new (D.same c_z46) h_z47
    generalize upd G46 z47 (.lst (xs4 ++ ys5)) = G47 at s_z47 l_z47 hb5c
    have c_z47 := c_z46.trans s_z47
    generalize xs4 ++ ys5 = xs5 at hb5c l_z47 hl5
    -- 7
    refine ⟨_, rfl, ?_⟩
    refine ⟨by show 3 ≤ sizeLine; decide, fun z48 h_z48 => ?_⟩
    have s_z48 := same_new (o := .tup [V.str "gone", V.int 0, V.int 0]) h_z48
    have n_z48 := hide_at (o := .tup [V.str "gone", V.int 0, V.int 0]) (D.same c_z47) h_z48
    generalize upd G47 z48 (.tup [V.str "gone", V.int 0, V.int 0]) = G48 at s_z48 n_z48
    clear h_z48
    have c_z48 := c_z47.trans s_z48
    have d_z48 : Dp K (hide m l G48) (.ref z48) (.tuple [.str "gone", .int 0, .int 0]) := .tup (.inl (.inl n_z48)) (.cons (.str _) (.cons (.int _) (.cons (.int _) .nil)))
    refine ⟨by show 3 ≤ sizeLine; decide, fun z49 h_z49 => ?_⟩
    have s_z49 := same_new (o := .tup [V.non, V.int 0, V.int 0]) h_z49
    have n_z49 := hide_at (o := .tup [V.non, V.int 0, V.int 0]) (D.same c_z48) h_z49
    generalize upd G48 z49 (.tup [V.non, V.int 0, V.int 0]) = G49 at s_z49 n_z49
    clear h_z49
    have c_z49 := c_z48.trans s_z49
    have d_z49 : Dp K (hide m l G49) (.ref z49) (.tuple [.none, .int 0, .int 0]) := .tup (.inl (.inl n_z49)) (.cons (.non) (.cons (.int _) (.cons (.int _) .nil)))
    refine ⟨by show 0 ≤ sizeLine; decide, fun z50 h_z50 => ?_⟩
    have s_z50 := same_new (o := .lst []) h_z50
    have n_z50 := hide_at (o := .lst []) (D.same c_z49) h_z50
    generalize upd G49 z50 (.lst []) = G50 at s_z50 n_z50
    clear h_z50
    have c_z50 := c_z49.trans s_z50
    have d_z50 : Dp K (hide m l G50) (.ref z50) (.list []) := .lst (SqL.of n_z50) .nil
    refine ⟨by show 3 ≤ sizeLine; decide, fun z51 h_z51 => ?_⟩
    have s_z51 := same_new (o := .tup [V.ref z50, V.int 0, V.int 0]) h_z51
    have n_z51 := hide_at (o := .tup [V.ref z50, V.int 0, V.int 0]) (D.same c_z50) h_z51
    generalize upd G50 z51 (.tup [V.ref z50, V.int 0, V.int 0]) = G51 at s_z51 n_z51
    clear h_z51
    have c_z51 := c_z50.trans s_z51
    have d_z51 : Dp K (hide m l G51) (.ref z51) (.tuple [.list [], .int 0, .int 0]) := .tup (.inl (.inl n_z51)) (.cons (dp_same (hide_same s_z51) _ _ d_z50) (.cons (.int _) (.cons (.int _) .nil)))
    refine ⟨by show 2 ≤ sizeLine; decide, fun z52 h_z52 => ?_⟩
    have s_z52 := same_new (o := .tup [V.str "", V.int 0]) h_z52
    have n_z52 := hide_at (o := .tup [V.str "", V.int 0]) (D.same c_z51) h_z52
    generalize upd G51 z52 (.tup [V.str "", V.int 0]) = G52 at s_z52 n_z52
    clear h_z52
    have c_z52 := c_z51.trans s_z52
    have d_z52 : Dp K (hide m l G52) (.ref z52) (.tuple [.str "", .int 0]) := .tup (.inl (.inl n_z52)) (.cons (.str _) (.cons (.int _) .nil))
    refine ⟨by show 3 ≤ sizeLine; decide, fun z53 h_z53 => ?_⟩
    have s_z53 := same_new (o := .tup [V.str "Put", V.int 0, V.int 0]) h_z53
    have n_z53 := hide_at (o := .tup [V.str "Put", V.int 0, V.int 0]) (D.same c_z52) h_z53
    generalize upd G52 z53 (.tup [V.str "Put", V.int 0, V.int 0]) = G53 at s_z53 n_z53
    clear h_z53
    have c_z53 := c_z52.trans s_z53
    have d_z53 : Dp K (hide m l G53) (.ref z53) (.tuple [.str "Put", .int 0, .int 0]) := .tup (.inl (.inl n_z53)) (.cons (.str _) (.cons (.int _) (.cons (.int _) .nil)))
    refine ⟨by show 1 ≤ sizeLine; decide, fun z54 h_z54 => ?_⟩
    have s_z54 := same_new (o := .tup [V.int 0]) h_z54
    have n_z54 := hide_at (o := .tup [V.int 0]) (D.same c_z53) h_z54
    generalize upd G53 z54 (.tup [V.int 0]) = G54 at s_z54 n_z54
    clear h_z54
    have c_z54 := c_z53.trans s_z54
    have d_z54 : Dp K (hide m l G54) (.ref z54) (.tuple [.int 0]) := .tup (.inl (.inl n_z54)) (.cons (.int _) .nil)
    refine ⟨by show 3 ≤ sizeLine; decide, fun z55 h_z55 => ?_⟩
    have s_z55 := same_new (o := .tup [V.str "put", V.ref z54, V.int 0]) h_z55
    have n_z55 := hide_at (o := .tup [V.str "put", V.ref z54, V.int 0]) (D.same c_z54) h_z55
    generalize upd G54 z55 (.tup [V.str "put", V.ref z54, V.int 0]) = G55 at s_z55 n_z55
    clear h_z55
    have c_z55 := c_z54.trans s_z55
    have d_z55 : Dp K (hide m l G55) (.ref z55) (.tuple [.str "put", .tuple [.int 0], .int 0]) := .tup (.inl (.inl n_z55)) (.cons (.str _) (.cons (dp_same (hide_same s_z55) _ _ d_z54) (.cons (.int _) .nil)))
    refine fun z56 h_z56 => ?_
    have s_z56 := same_new (o := .dK []) h_z56
    have n_z56 := hide_at (o := .dK []) (D.same c_z55) h_z56
    generalize upd G55 z56 (.dK []) = G56 at s_z56 n_z56
    clear h_z56
    have c_z56 := c_z55.trans s_z56
    refine ⟨by show 8 ≤ sizeLine; decide, fun z57 h_z57 => ?_⟩
    have s_z57 := same_new (o := .lst [V.ref z48, V.ref z49, V.ref z51, V.ref z52, V.ref z53, V.ref z55, V.ref z56, V.int 5]) h_z57
    have n_z57 := hide_at (o := .lst [V.ref z48, V.ref z49, V.ref z51, V.ref z52, V.ref z53, V.ref z55, V.ref z56, V.int 5]) (D.same c_z56) h_z57
    generalize upd G56 z57 (.lst [V.ref z48, V.ref z49, V.ref z51, V.ref z52, V.ref z53, V.ref z55, V.ref z56, V.int 5]) = G57 at s_z57 n_z57
    clear h_z57
    have c_z57 := c_z56.trans s_z57
    have hb6 : ∀ v ∈ [V.ref z48, V.ref z49, V.ref z51, V.ref z52, V.ref z53, V.ref z55, V.ref z56, V.int 5], BadT K (hide m l G57) C row v := fun v hv => by
      simp only [List.mem_cons, List.not_mem_nil, or_false] at hv
      rcases hv with rfl | rfl | rfl | rfl | rfl | rfl | rfl | rfl
      · exact bad_str (dp_same (hide_same ((((((((s_z49.trans s_z50).trans s_z51).trans s_z52).trans s_z53).trans s_z54).trans s_z55).trans s_z56).trans s_z57)) _ _ d_z48) rfl (by decide +kernel)
      · exact bad_no (dp_same (hide_same (((((((s_z50.trans s_z51).trans s_z52).trans s_z53).trans s_z54).trans s_z55).trans s_z56).trans s_z57)) _ _ d_z49) rfl
      · exact bad_no (dp_same (hide_same (((((s_z52.trans s_z53).trans s_z54).trans s_z55).trans s_z56).trans s_z57)) _ _ d_z51) rfl
      · exact bad_str (dp_same (hide_same ((((s_z53.trans s_z54).trans s_z55).trans s_z56).trans s_z57)) _ _ d_z52) rfl (by decide +kernel)
      · exact bad_str (dp_same (hide_same (((s_z54.trans s_z55).trans s_z56).trans s_z57)) _ _ d_z53) rfl (by decide +kernel)
      · exact bad_put (dp_same (hide_same (s_z56.trans s_z57)) _ _ d_z55) (.inl (rfl))
      · exact bad_ty (.base (.dK (hide_same s_z57 _ _ n_z56))) (kit_ty (a := "dict") (b := "tuple") (r := false) (by decide +kernel))
      · exact bad_ty (.base (.int _)) (kit_ty (a := "int") (b := "tuple") (r := false) (by decide +kernel))
    have l_z57 := hide_sub _ _ n_z57
    clear n_z57
    have hl6n : [V.ref z48, V.ref z49, V.ref z51, V.ref z52, V.ref z53, V.ref z55, V.ref z56, V.int 5].length = 8 := rfl
    generalize [V.ref z48, V.ref z49, V.ref z51, V.ref z52, V.ref z53, V.ref z55, V.ref z56, V.int 5] = ys6 at hb6 l_z57 hl6n
    refine ⟨z47, z57, xs5, ys6, rfl, rfl, (((((((((s_z48.trans s_z49).trans s_z50).trans s_z51).trans s_z52).trans s_z53).trans s_z54).trans s_z55).trans s_z56).trans s_z57) _ _ l_z47, l_z57, sz_line (by omega), fun z58 h_z58 => ?_⟩
    have s_z58 := same_new (o := .lst (xs5 ++ ys6)) h_z58
    have l_z58 : (upd G57 z58 (.lst (xs5 ++ ys6))) z58 = some (.lst (xs5 ++ ys6)) := upd_same
    have hb6c : ∀ v ∈ xs5 ++ ys6, BadT K (hide m l (upd G57 z58 (.lst (xs5 ++ ys6)))) C row v := fun v hv => by
      rcases List.mem_append.mp hv with hv | hv
      · exact (hb5c v hv).same (hide_same ((((((((((s_z48.trans s_z49).trans s_z50).trans s_z51).trans s_z52).trans s_z53).trans s_z54).trans s_z55).trans s_z56).trans s_z57).trans s_z58))
      · exact (hb6 v hv).same (hide_same s_z58)
    have hl6 : (xs5 ++ ys6).length = 42 := by rw [List.length_append]; omega
    have nq_z58 := NQ.new (D.same c_z57) h_z58
    generalize upd G57 z58 (.lst (xs5 ++ ys6)) = G58 at s_z58 l_z58 hb6c
    have c_z58 := c_z57.trans s_z58
    generalize xs5 ++ ys6 = xs6 at hb6c l_z58 hl6
    -- 8
    refine ⟨_, rfl, ?_⟩
    refine ⟨_, _, rfl, rfl, ⟨by decide, by decide, by decide⟩, ?_⟩
    refine ⟨by show 3 ≤ sizeLine; decide, fun z59 h_z59 => ?_⟩
    have s_z59 := same_new (o := .tup [V.str "cut", V.int 0, V.int ((10 : Int) ^ (30 : Int).toNat)]) h_z59
    have n_z59 := hide_at (o := .tup [V.str "cut", V.int 0, V.int ((10 : Int) ^ (30 : Int).toNat)]) (D.same c_z58) h_z59
    generalize upd G58 z59 (.tup [V.str "cut", V.int 0, V.int ((10 : Int) ^ (30 : Int).toNat)]) = G59 at s_z59 n_z59
    clear h_z59
    have c_z59 := c_z58.trans s_z59
    have d_z59 : Dp K (hide m l G59) (.ref z59) (.tuple [.str "cut", .int 0, .int ((10 : Int) ^ (30 : Int).toNat)]) := .tup (.inl (.inl n_z59)) (.cons (.str _) (.cons (.int _) (.cons (.int _) .nil)))
    refine ⟨by show 1 ≤ sizeLine; decide, fun z60 h_z60 => ?_⟩
    have s_z60 := same_new (o := .tup [V.int 0]) h_z60
    have n_z60 := hide_at (o := .tup [V.int 0]) (D.same c_z59) h_z60
    generalize upd G59 z60 (.tup [V.int 0]) = G60 at s_z60 n_z60
    clear h_z60
    have c_z60 := c_z59.trans s_z60
    have d_z60 : Dp K (hide m l G60) (.ref z60) (.tuple [.int 0]) := .tup (.inl (.inl n_z60)) (.cons (.int _) .nil)
    refine ⟨by show 2 ≤ sizeLine; decide, fun z61 h_z61 => ?_⟩
    have s_z61 := same_new (o := .tup [V.str "from", V.ref z60]) h_z61
    have n_z61 := hide_at (o := .tup [V.str "from", V.ref z60]) (D.same c_z60) h_z61
    generalize upd G60 z61 (.tup [V.str "from", V.ref z60]) = G61 at s_z61 n_z61
    clear h_z61
    have c_z61 := c_z60.trans s_z61
    have d_z61 : Dp K (hide m l G61) (.ref z61) (.tuple [.str "from", .tuple [.int 0]]) := .tup (.inl (.inl n_z61)) (.cons (.str _) (.cons (dp_same (hide_same s_z61) _ _ d_z60) .nil))
    refine ⟨by show 2 ≤ sizeLine; decide, fun z62 h_z62 => ?_⟩
    have s_z62 := same_new (o := .lst [V.ref z59, V.ref z61]) h_z62
    have n_z62 := hide_at (o := .lst [V.ref z59, V.ref z61]) (D.same c_z61) h_z62
    generalize upd G61 z62 (.lst [V.ref z59, V.ref z61]) = G62 at s_z62 n_z62
    clear h_z62
    have c_z62 := c_z61.trans s_z62
    have hb7 : ∀ v ∈ [V.ref z59, V.ref z61], BadT K (hide m l G62) C row v := fun v hv => by
      simp only [List.mem_cons, List.not_mem_nil, or_false] at hv
      rcases hv with rfl | rfl
      · exact bad_cut (dp_same (hide_same ((s_z60.trans s_z61).trans s_z62)) _ _ d_z59) (.inl (btw_big (by omega)))
      · exact bad_from (dp_same (hide_same s_z62) _ _ d_z61) (rfl)
    have l_z62 := hide_sub _ _ n_z62
    clear n_z62
    have hl7n : [V.ref z59, V.ref z61].length = 2 := rfl
    generalize [V.ref z59, V.ref z61] = ys7 at hb7 l_z62 hl7n
    refine ⟨z58, z62, xs6, ys7, rfl, rfl, (((s_z59.trans s_z60).trans s_z61).trans s_z62) _ _ l_z58, l_z62, sz_line (by omega), fun z63 h_z63 => ?_⟩
    have s_z63 := same_new (o := .lst (xs6 ++ ys7)) h_z63
    have l_z63 : (upd G62 z63 (.lst (xs6 ++ ys7))) z63 = some (.lst (xs6 ++ ys7)) := upd_same
    have hb7c : ∀ v ∈ xs6 ++ ys7, BadT K (hide m l (upd G62 z63 (.lst (xs6 ++ ys7)))) C row v := fun v hv => by
      rcases List.mem_append.mp hv with hv | hv
      · exact (hb6c v hv).same (hide_same ((((s_z59.trans s_z60).trans s_z61).trans s_z62).trans s_z63))
      · exact (hb7 v hv).same (hide_same s_z63)
    have hl7 : (xs6 ++ ys7).length = 44 := by rw [List.length_append]; omega
    have nq_z63 := NQ.new (D.same c_z62) h_z63
    generalize upd G62 z63 (.lst (xs6 ++ ys7)) = G63 at s_z63 l_z63 hb7c
    have c_z63 := c_z62.trans s_z63
    generalize xs6 ++ ys7 = xs7 at hb7c l_z63 hl7
    have D1 := D.same c_z63
    refine ⟨_, rfl, _, rfl, _, rfl, z63, _, rfl, .inl (SqL.of l_z63), ?_⟩
    rw [hl7]
    refine ⟨m, c, l, k, _, rfl, by decide, by decide, D1, fun r l2 H2 p0 p1 kp D2 => ?_⟩
    obtain ⟨j, rfl⟩ := Int.eq_ofNat_of_zero_le p0
    have hj : j < xs7.length := by omega
    refine ⟨z63, _, (j : Nat), xs7[j], rfl, rfl, SqL.of (kp.st _ _ l_z63 nq_z63.1 nq_z63.2.2), atI_nat (List.getElem?_eq_getElem hj), ?_⟩
    exact q _ l2 H2 (kpS c_z63 kp) D2 ((hb7c _ (List.getElem_mem hj)).same (hide_kp kp))
end
end My

set_option pp.maxSteps 700
/-! what stands in the laws of desks, together -/
namespace My
open PySem PySem.Spec PyProof.Rows L2 LamX
theorem tabs_insC {T : List (Addr × Str)} {H : Hp} {p C dx : Addr} {fs : List (Str × V)} {o : HO} (t : Tabs T H) (hp : H p = some (.ins C dx fs)) : Tabs T (upd H p o) := by
  intro q hq
  obtain ⟨ps, h1, h2, h3⟩ := t q hq
  refine ⟨ps, (upd_ne fun e => by rw [e, hp] at h1; cases h1).trans h1, h2, fun pos cv hc => ?_⟩
  obtain ⟨c, e1, e2⟩ := h3 pos cv hc
  exact ⟨c, e1, (upd_ne fun e => by rw [e, hp] at e2; unfold CodeO at e2; cases e2).trans e2⟩
theorem tabs_dkf {T : List (Addr × Str)} {H H' : Hp} {p d u C dx : Addr} {fs : List (Str × V)} {xs ys : List V} (t : Tabs T H) (F : DkF p d u H H') (hp : H p = some (.ins C dx fs)) (hd : H d = some (.lst xs)) (hu : H u = some (.lst ys)) : Tabs T H' := by
  intro q hq
  obtain ⟨ps, h1, h2, h3⟩ := t q hq
  refine ⟨ps, F.st _ _ h1 (fun e => by rw [e, hp] at h1; cases h1) (fun e => by rw [e, hd] at h1; cases h1) (fun e => by rw [e, hu] at h1; cases h1), h2, fun pos cv hc => ?_⟩
  obtain ⟨c, e1, e2⟩ := h3 pos cv hc
  exact ⟨c, e1, F.st _ _ e2 (fun e => by rw [e, hp] at e2; unfold CodeO at e2; cases e2) (fun e => by rw [e, hd] at e2; unfold CodeO at e2; cases e2) (fun e => by rw [e, hu] at e2; unfold CodeO at e2; cases e2)⟩
theorem pick_int {xs : List Int} {r : Int} (h0 : 0 ≤ r) (h1 : r < (xs.length : Int)) : ∃ z, z ∈ xs ∧ atI (xs.map V.int) r = some (.int z) := by
  obtain ⟨n, rfl⟩ := Int.eq_ofNat_of_zero_le h0
  have hn : n < xs.length := by omega
  exact ⟨xs[n], List.getElem_mem hn, atI_nat (by rw [List.getElem?_map, List.getElem?_eq_getElem hn]; rfl)⟩
section
variable {P : Program} {w : World} {K : PySem.W.Frag} {mg : Str → Option Value} {base : Heap}
/-- what stands in the law -/
structure Bd (T : Txt K mg) (TT : List (Addr × Str)) (H : Hp) (m c l : Addr) (k : Nat) (p f d u : Addr) (cv pr : V) (pd : PyData) (C : Cod) (row0 : List Nat) (st0 : Int × Int) (row : List Nat) (st : Int × Int) (dn un : List (Stp × Edt)) (n : Nat) (S : Addr) : Prop where
  D : Dr H m c l k
  cv : Dp K H cv C.dat
  pr : Dp K H pr pd
  np : noL pd = true
  dk : DkS T H p f d u C row0 st0 row st dn un n
  nd : NQ m c l d
  nu : NQ m c l u
  ls : ∃ ss, Lq K H m c l d u S ss (dn.map fun y => y.1.dat)
  sm : ∀ y ∈ dn, y.1.Sm
  Tb : Tabs TT H
theorem Bd.same {T : Txt K mg} {TT : List (Addr × Str)} {H H' : Hp} {m c l p f d u S : Addr} {k : Nat} {cv pr : V} {pd : PyData} {C : Cod} {row0 row : List Nat} {st0 st : Int × Int} {dn un : List (Stp × Edt)} {n : Nat} (h : Bd T TT H m c l k p f d u cv pr pd C row0 st0 row st dn un n S) (s : Same H H') : Bd T TT H' m c l k p f d u cv pr pd C row0 st0 row st dn un n S := by
  obtain ⟨ss, ls⟩ := h.ls
  exact ⟨h.D.same s, dp_same s _ _ h.cv, dp_same s _ _ h.pr, h.np, h.dk.same s, h.nd, h.nu, ⟨ss, ls.same s⟩, h.sm, tabs_same h.Tb s⟩
theorem Bd.less {T : Txt K mg} {TT : List (Addr × Str)} {H : Hp} {m c l p f d u S : Addr} {k k' : Nat} {cv pr : V} {pd : PyData} {C : Cod} {row0 row : List Nat} {st0 st : Int × Int} {dn un : List (Stp × Edt)} {n : Nat} (h : Bd T TT H m c l k p f d u cv pr pd C row0 st0 row st dn un n S) (e : k' ≤ k) : Bd T TT H m c l k' p f d u cv pr pd C row0 st0 row st dn un n S := ⟨h.D.less e, h.cv, h.pr, h.np, h.dk, h.nd, h.nu, h.ls, h.sm, h.Tb⟩
theorem Bd.draw {T : Txt K mg} {TT : List (Addr × Str)} {H H' : Hp} {m c l l' p f d u S : Addr} {k k' : Nat} {cv pr : V} {pd : PyData} {C : Cod} {row0 row : List Nat} {st0 st : Int × Int} {dn un : List (Stp × Edt)} {n : Nat} (h : Bd T TT H m c l k p f d u cv pr pd C row0 st0 row st dn un n S) (kp : Kp m l H l' H') (D' : Dr H' m c l' k') : Bd T TT H' m c l' k' p f d u cv pr pd C row0 st0 row st dn un n S := by
  obtain ⟨ss, ls⟩ := h.ls
  have kk := keep_draw kp h.D
  obtain ⟨xs, hd, _⟩ := h.dk.dl
  obtain ⟨ys, hu, _⟩ := h.dk.ul
  exact ⟨D', dp_keep kk _ _ (noL_cod C) h.cv, dp_keep kk _ _ h.np h.pr, h.np, h.dk.kp kp h.D h.nd h.nu, h.nd.kp kp hd, h.nu.kp kp hu, ⟨ss, ls.draw kp h.D⟩, h.sm, tabs_kp h.Tb kp h.D⟩
/-- another instance is changed -/
theorem Bd.ins {T : Txt K mg} {TT : List (Addr × Str)} {H : Hp} {m c l p f d u S z Cz dz : Addr} {k : Nat} {fs : List (Str × V)} {o : HO} {cv pr : V} {pd : PyData} {C : Cod} {row0 row : List Nat} {st0 st : Int × Int} {dn un : List (Stp × Edt)} {n : Nat} (h : Bd T TT H m c l k p f d u cv pr pd C row0 st0 row st dn un n S) (hz : H z = some (.ins Cz dz fs)) (np : p ≠ z) (nf : f ≠ z) : Bd T TT (upd H z o) m c l k p f d u cv pr pd C row0 st0 row st dn un n S := by
  obtain ⟨ss, ls⟩ := h.ls
  have e := exI_ins (o := o) hz
  obtain ⟨dx, r, x, h1, h2, h3⟩ := h.dk.ob
  obtain ⟨xs, d1, d2⟩ := h.dk.dl
  obtain ⟨ys, u1, u2⟩ := h.dk.ul
  exact ⟨dr_exI h.D e, dp_exI e _ _ h.cv, dp_exI e _ _ h.pr, h.np, ⟨⟨dx, r, x, (upd_ne np).trans h1, dp_exI e _ _ h2, dp_exI e _ _ h3⟩, h.dk.fc.exI hz nf, ⟨xs, e _ _ d1 nofun nofun, dpAll_exI e _ _ d2⟩, ⟨ys, e _ _ u1 nofun nofun, dpAll_exI e _ _ u2⟩, h.dk.du, h.dk.R, h.dk.St⟩,
    h.nd, h.nu, ⟨ss, ⟨e _ _ ls.h nofun nofun, dpAll_exI e _ _ ls.da, ls.nl, ls.nq, ls.nd, ls.nu⟩⟩, h.sm, tabs_insC h.Tb hz⟩
theorem DkS.lst {T : Txt K mg} {H : Hp} {p f d u z : Addr} {xs : List V} {o : HO} {C : Cod} {row0 row : List Nat} {st0 st : Int × Int} {dn un : List (Stp × Edt)} {n : Nat} (h : DkS T H p f d u C row0 st0 row st dn un n) (hz : H z = some (.lst xs)) (nd : d ≠ z) (nu : u ≠ z) : DkS T (upd H z o) p f d u C row0 st0 row st dn un n := by
  obtain ⟨dx, r, x, h1, h2, h3⟩ := h.ob
  obtain ⟨ws, d1, d2⟩ := h.dl
  obtain ⟨ys, u1, u2⟩ := h.ul
  have k := keep_set (o := o) hz
  exact ⟨⟨dx, r, x, (upd_ne fun e => by rw [e, hz] at h1; cases h1).trans h1, dp_keep k _ _ (noL_row _) h2, dp_keep k _ _ (noL_pair _) h3⟩, h.fc.lst hz, ⟨ws, (upd_ne nd).trans d1, dpAll_keep k _ _ (noL_ses _) d2⟩, ⟨ys, (upd_ne nu).trans u1, dpAll_keep k _ _ (noL_ses _) u2⟩, h.du, h.R, h.St⟩
/-- another list is changed -/
theorem Bd.lst {T : Txt K mg} {TT : List (Addr × Str)} {H : Hp} {m c l p f d u S z : Addr} {k : Nat} {xs ys : List V} {cv pr : V} {pd : PyData} {C : Cod} {row0 row : List Nat} {st0 st : Int × Int} {dn un : List (Stp × Edt)} {n : Nat} (h : Bd T TT H m c l k p f d u cv pr pd C row0 st0 row st dn un n S) (hz : H z = some (.lst xs)) (nz : NQ m c l z) (nd : d ≠ z) (nu : u ≠ z) (nS : S ≠ z) : Bd T TT (upd H z (.lst ys)) m c l k p f d u cv pr pd C row0 st0 row st dn un n S := by
  obtain ⟨ss, ls⟩ := h.ls
  have k := keep_set (o := .lst ys) hz
  exact ⟨h.D.set nz.1 nz.2.1 nz.2.2, dp_keep k _ _ (noL_cod _) h.cv, dp_keep k _ _ h.np h.pr, h.np, h.dk.lst hz nd nu, h.nd, h.nu, ⟨ss, ⟨(upd_ne nS).trans ls.h, dpAll_keep k _ _ ls.nl ls.da, ls.nl, ls.nq, ls.nd, ls.nu⟩⟩, h.sm, tabs_put h.Tb hz⟩
theorem tyxT {H : Hp} {a : Addr} {xs : List V} (h : SqT K H a xs) : TyX K H (.ref a) (.type "tuple") := by
  rcases h with (h | ⟨o, h⟩) | ⟨o, its, n, h, hc, _⟩
  · exact .base (.tup h)
  · exact .fTuple h
  · exact .kTuple h hc
/-- a thing that is no clip -/
def OddV (T : Txt K mg) (H : Hp) (v : V) : Prop := v = .non ∨ (∃ i : Int, v = .int i) ∨ (∃ a xs, v = .ref a ∧ SqT K H a xs) ∨ (∃ a xs, v = .ref a ∧ H a = some (.lst xs)) ∨ ∃ a dx fs, v = .ref a ∧ H a = some (.ins T.C_Desk dx fs)
theorem OddV.ext {T : Txt K mg} {H H' : Hp} {v : V} (h : OddV T H v) (e : ExtN H H') : OddV T H' v := by
  rcases h with h | ⟨i, h⟩ | ⟨a, xs, h, z⟩ | ⟨a, xs, h, z⟩ | ⟨a, dx, fs, h, z⟩
  · exact .inl h
  · exact .inr (.inl ⟨i, h⟩)
  · exact .inr (.inr (.inl ⟨a, xs, h, ext_tup e z⟩))
  · exact .inr (.inr (.inr (.inl ⟨a, xs, h, e _ _ z nofun⟩)))
  · exact .inr (.inr (.inr (.inr ⟨a, dx, fs, h, e _ _ z nofun⟩)))
theorem OddV.ty {T : Txt K mg} {H : Hp} {v : V} (h : OddV T H v) : ∃ ty : Value, TyX K H v ty ∧ PySem.W.kitOne K ty (.ref T.C_Clip) = some false := by
  rcases h with h | ⟨i, h⟩ | ⟨a, xs, h, z⟩ | ⟨a, xs, h, z⟩ | ⟨a, dx, fs, h, z⟩ <;> subst h
  · exact ⟨.type "NoneType", .base .non, T.is_Clip.no _ (by simp)⟩
  · exact ⟨.type "int", tyx (.int i), T.is_Clip.no _ (by simp)⟩
  · exact ⟨.type "tuple", tyxT z, T.is_Clip.no _ (by simp)⟩
  · exact ⟨.type "list", .base (.lst z), T.is_Clip.no _ (by simp)⟩
  · exact ⟨_, T.is_Desk.ty T.cl_Desk z, T.kd_Desk⟩
end
end My

set_option pp.maxSteps 700
/-! what a report tells -/
namespace My
open PySem PySem.Spec PyProof.Rows L2
theorem take_alk {xs ys : List Int} {k : Nat} (h : ∀ j, j < k → alk xs ys j = true) : xs.take k = ys.take k := by
  refine List.ext_getElem? fun j => ?_
  rw [List.getElem?_take, List.getElem?_take]
  by_cases e : j < k
  · rw [if_pos e, if_pos e]
    exact of_decide_eq_true (h j e)
  · rw [if_neg e, if_neg e]
theorem rep_join (old new : List Int) : old.take (repF old new) ++ (new.drop (repF old new)).take (new.length - repE old new - repF old new) ++ old.drop (repF old new + ((old.drop (repF old new)).take (old.length - repE old new - repF old new)).length) = new := by
  obtain ⟨h1, h2⟩ := rep_le old new
  have A : old.take (repF old new) = new.take (repF old new) := take_alk (cpn_is _ _).al
  have B : old.reverse.take (repE old new) = new.reverse.take (repE old new) := take_alk (cpn_is _ _).al
  rw [List.take_reverse, List.take_reverse] at B
  have B := congrArg List.reverse B
  rw [List.reverse_reverse, List.reverse_reverse] at B
  rw [List.length_take, List.length_drop, show repF old new + min (old.length - repE old new - repF old new) (old.length - repF old new) = old.length - repE old new by omega, B, A, ← List.take_add, show repF old new + (new.length - repE old new - repF old new) = new.length - repE old new by omega]
  exact List.take_append_drop _ _
theorem rep_self (L : List Int) : repD L L = .tuple [.int (L.length : Nat), intsD [], intsD []] := by
  have hF : repF L L = L.length := by
    unfold repF
    rw [Nat.min_self]
    exact IsCp.uniq ⟨Nat.le_refl _, fun j _ => decide_eq_true rfl, .inl rfl⟩
  unfold repD
  rw [hF]
  rw [show ∀ e, (L.drop L.length).take e = [] from fun e => by rw [List.drop_length]; exact List.take_nil]
theorem alk_rev {xs ys : List Int} {t : Nat} (h1 : t < xs.length) (h2 : t < ys.length) : alk xs.reverse ys.reverse t = decide (xs[xs.length - 1 - t]? = ys[ys.length - 1 - t]?) := by
  unfold alk
  rw [List.getElem?_reverse h1, List.getElem?_reverse h2]
theorem joinN {G : Nat → Prop} {B : Nat → Prop} {M : Prop} (main : (∀ f, B f → G f) → M) (cont : ∀ f, B f → G f) : M := main cont
section
variable {P : Program} {w : World} {K : PySem.W.Frag} {mg : Str → Option Value} {base : Heap}
def sp_law_report (T : Txt K mg) : Sp := fun vs H Q _ => ∃ (cv p1 p2 : V) (C : Cod) (row row' : List Nat) (st st' : Int × Int), vs = [cv, p1, p2] ∧ C.Ok ∧ Dp K H cv C.dat ∧ Dp K H p1 (pairD2 st row) ∧ Dp K H p2 (pairD2 st' row') ∧ C.Row row ∧ C.Row row' ∧ C.St st ∧ C.St st' ∧
  ∀ z H', Same H H' → Dp K H' z (repD (C.lev st row) (C.lev st' row')) → Q z H'
set_option maxHeartbeats 2000000 in
theorem ok_law_report (T : Txt K mg) : FnOk P w K mg base CX0 10 T.f__law_report T.d__law_report ["coder", "pair", "other"] (sp_law_report T) := by
  refine T.F__law_report.ok sc_law_report (fun vs H Q E h => ?_) (fun cdv A outer s H vs Q E hr h => ?_)
  · obtain ⟨cv, p1, p2, C, row, row', st, st', rfl, _⟩ := h
    rfl
  · obtain ⟨cv, p1, p2, C, row, row', st, st', rfl, O, hcv, hp1, hp2, R, R', S, S', q⟩ := h
    refine ⟨_,
(pss_cons (ps_asg (pe_tup (pa_cons (pe_call (ok_law_sound T) (hr.mono (by decide)) (by rfl) T.g__law_sound T.F__law_sound.kp T.b__law_sound .nil pass0 (pa_cons (pv 0) (pa_cons (pv 1) pa_nil))) (pa_cons (pe_call (ok_law_sound T) (hr.mono (by decide)) (by rfl) T.g__law_sound T.F__law_sound.kp T.b__law_sound .nil pass0 (pa_cons (pv 0) (pa_cons (pv 2) pa_nil))) (pa_cons pe_int (pa_cons pe_int pa_nil))))) (pg_tup (by rfl) (pgs_cons (pg_name (i := 3) sc_law_report.nd rfl (Or.inl rfl)) (pgs_cons (pg_name (i := 4) sc_law_report.nd rfl (Or.inl rfl)) (pgs_cons (pg_name (i := 5) sc_law_report.nd rfl (Or.inl rfl)) (pgs_cons (pg_name (i := 6) sc_law_report.nd rfl (Or.inl rfl)) pgs_nil))))))
      (pss_cons (ps_set (i := 7) sc_law_report.nd rfl (Or.inl rfl) (pe_callB (call_min2 rfl) (by rfl) T.z_min (by decide +kernel) (pa_cons (pe_callB (call_len_seq) (by rfl) T.z_len (by decide +kernel) (pa_cons (pv 3) pa_nil)) (pa_cons (pe_callB (call_len_seq) (by rfl) T.z_len (by decide +kernel) (pa_cons (pv 4) pa_nil)) pa_nil))))
      (pss_cons (ps_while PassesOwn.never (PW.pt (pw_and (pt_cmpR op_lt (pv 5) (pv 7) (nomark _)) (pw_and1 (pt_cmpR op_eq (pe_ix ix_tup (pv 3) (pv 5) (fun _ _ => rfl)) (pe_ix ix_tup (pv 4) (pv 5) (fun _ _ => rfl)) (nomark _))))) (pss_one (ps_set (i := 5) sc_law_report.nd rfl (Or.inl rfl) (pe_op op_add (pv 5) pe_int))))
      (pss_cons (ps_while PassesOwn.never (PW.pt (pw_and (pt_cmpR op_lt (pv 6) (pe_op op_sub (pv 7) (pv 5)) (nomark _)) (pw_and1 (pt_cmpR op_eq (pe_ix ix_tup (pv 3) (pe_op op_sub (pe_op op_sub (pe_callB (call_len_seq) (by rfl) T.z_len (by decide +kernel) (pa_cons (pv 3) pa_nil)) pe_int) (pv 6)) (fun _ _ => rfl)) (pe_ix ix_tup (pv 4) (pe_op op_sub (pe_op op_sub (pe_callB (call_len_seq) (by rfl) T.z_len (by decide +kernel) (pa_cons (pv 4) pa_nil)) pe_int) (pv 6)) (fun _ _ => rfl)) (nomark _))))) (pss_one (ps_set (i := 6) sc_law_report.nd rfl (Or.inl rfl) (pe_op op_add (pv 6) pe_int))))
      (pss_one (ps_ret (pe_tup (pa_cons (pv 5) (pa_cons (pe_slice sl_tupA (pv 3) (po_some (pv 5)) (po_some (pe_op op_sub (pe_callB (call_len_seq) (by rfl) T.z_len (by decide +kernel) (pa_cons (pv 3) pa_nil)) (pv 6)))) (pa_cons (pe_slice sl_tupA (pv 4) (po_some (pv 5)) (po_some (pe_op op_sub (pe_callB (call_len_seq) (by rfl) T.z_len (by decide +kernel) (pa_cons (pv 4) pa_nil)) (pv 6)))) pa_nil))))))))))
, ?_⟩
    refine ⟨_, rfl, _, rfl, cv, p1, C, row, st, rfl, O, hcv, hp1, R, S, fun a H1 s1 ha => ?_⟩
    refine ⟨_, rfl, _, rfl, cv, p2, C, row', st', rfl, O, dp_same s1 _ _ hcv, dp_same s1 _ _ hp2, R', S', fun b H2 s2 hb => ?_⟩
    have ha := same_tup s2 ha
    have lx0 := lev_len (C := C) row st
    have ly0 := lev_len (C := C) row' st'
    have r1 := R.len
    have r2 := R'.len
    generalize C.lev st row = xs at ha q lx0
    generalize C.lev st' row' = ys at hb q ly0
    have s12 := s1.trans s2
    refine ⟨by show 4 ≤ sizeLine; decide, fun t ht => ?_⟩
    have s3 := same_new (o := .tup [V.ref a, V.ref b, V.int 0, V.int 0]) ht
    have ha3 := same_tup s3 ha
    have hb3 := same_tup s3 hb
    have s13 := s12.trans s3
    refine ⟨t, _, rfl, upd_tup, rfl, _, _, rfl, _, _, rfl, _, _, rfl, _, _, rfl, rfl, ?_⟩
    generalize upd H2 t (.tup [V.ref a, V.ref b, V.int 0, V.int 0]) = H3 at ha3 hb3 s13
    have lx : (xs.map V.int).length = xs.length := List.length_map ..
    have ly : (ys.map V.int).length = ys.length := List.length_map ..
    refine ⟨_, rfl, a, _, rfl, .inr ha3, _, rfl, b, _, rfl, .inr hb3, _, _, rfl, ?_⟩
    rw [lx, ly, show (if ((ys.length : Nat) : Int) < (xs.length : Nat) then ((ys.length : Nat) : Int) else (xs.length : Nat)) = ((min xs.length ys.length : Nat) : Int) by split <;> omega]
    apply joinN (B := fun f => IsCp (alk xs ys) (min xs.length ys.length) f)
    · intro cont
      refine ⟨fun k σ H' => ∃ f : Nat, σ = [some cv, some p1, some p2, some (.ref a), some (.ref b), some (.int (f : Nat)), some (.int 0), some (.int (min xs.length ys.length : Nat))] ∧ H3 = H' ∧ f ≤ min xs.length ys.length ∧ (∀ j, j < f → alk xs ys j = true) ∧ k = min xs.length ys.length - f, ⟨_, 0, rfl, rfl, Nat.zero_le _, nofun, rfl⟩, ?_⟩
      rintro k σ H' ⟨f, rfl, rfl, hf, al, rfl⟩
      by_cases h1 : f < min xs.length ys.length
      rotate_left
      · refine ⟨_, rfl, _, rfl, _, _, rfl, rfl, _, rfl, iteFd (by omega) ?_⟩
        refine iteF ?_
        exact cont f ⟨hf, al, .inl (by omega)⟩
      · refine ⟨_, rfl, _, rfl, _, _, rfl, rfl, _, rfl, iteTd (by omega) ?_⟩
        obtain ⟨g, hg⟩ : ∃ g, xs[f]? = some g := ⟨xs[f]'(by omega), List.getElem?_eq_getElem (by omega)⟩
        obtain ⟨g', hg'⟩ : ∃ g, ys[f]? = some g := ⟨ys[f]'(by omega), List.getElem?_eq_getElem (by omega)⟩
        have e1 : (xs.map V.int)[f]? = some (V.int g) := by rw [List.getElem?_map, hg]; rfl
        have e2 : (ys.map V.int)[f]? = some (V.int g') := by rw [List.getElem?_map, hg']; rfl
        refine ⟨_, rfl, _, rfl, a, _, _, _, rfl, rfl, ha3, atI_nat e1, _, rfl, _, rfl, b, _, _, _, rfl, rfl, hb3, atI_nat e2, rfl, _, rfl, ?_⟩
        by_cases e : g = g'
        · subst e
          rw [decide_eq_true rfl]
          refine iteT ⟨fun σ' H'' => σ' = [some cv, some p1, some p2, some (.ref a), some (.ref b), some (.int ((f + 1 : Nat) : Int)), some (.int 0), some (.int (min xs.length ys.length : Nat))] ∧ H'' = H3, ?_, ?_⟩
          · rintro σ' H'' ⟨rfl, rfl⟩
            refine ⟨min xs.length ys.length - (f + 1), by omega, f + 1, rfl, rfl, by omega, fun j hj => ?_, rfl⟩
            rcases Nat.lt_succ_iff_lt_or_eq.mp hj with hj | hj
            · exact al j hj
            · rw [hj]; exact decide_eq_true (by rw [hg, hg'])
          · exact ⟨_, rfl, _, _, rfl, rfl, rfl, rfl⟩
        · rw [decide_eq_false (show ¬ V.int g = V.int g' from fun z => e (by injection z))]
          refine iteF ?_
          exact cont f ⟨hf, al, .inr (decide_eq_false (by rw [hg, hg']; exact fun z => e (Option.some.inj z)))⟩
    · intro F hF
      have hFe : repF xs ys = F := hF.uniq
      have hFl := hF.le
      apply joinN (B := fun t => IsCp (alk xs.reverse ys.reverse) (min xs.length ys.length - F) t)
      · intro cont
        refine ⟨fun k σ H2' => ∃ t : Nat, σ = [some cv, some p1, some p2, some (.ref a), some (.ref b), some (.int (F : Nat)), some (.int (t : Nat)), some (.int (min xs.length ys.length : Nat))] ∧ H3 = H2' ∧ t ≤ min xs.length ys.length - F ∧ (∀ j, j < t → alk xs.reverse ys.reverse j = true) ∧ k = min xs.length ys.length - F - t, ⟨_, 0, rfl, rfl, Nat.zero_le _, nofun, rfl⟩, ?_⟩
        rintro k σ H2' ⟨t, rfl, rfl, ht, al, rfl⟩
        refine ⟨_, rfl, _, rfl, _, rfl, _, _, rfl, rfl, _, _, rfl, rfl, _, rfl, ?_⟩
        by_cases h1 : t < min xs.length ys.length - F
        rotate_left
        · refine iteFd (by omega) ?_
          refine iteF ?_
          exact cont t ⟨ht, al, .inl (by omega)⟩
        · refine iteTd (by omega) ?_
          obtain ⟨g, hg⟩ : ∃ g, xs[xs.length - 1 - t]? = some g := ⟨xs[xs.length - 1 - t]'(by omega), List.getElem?_eq_getElem (by omega)⟩
          obtain ⟨g', hg'⟩ : ∃ g, ys[ys.length - 1 - t]? = some g := ⟨ys[ys.length - 1 - t]'(by omega), List.getElem?_eq_getElem (by omega)⟩
          have e1 : (xs.map V.int)[xs.length - 1 - t]? = some (V.int g) := by rw [List.getElem?_map, hg]; rfl
          have e2 : (ys.map V.int)[ys.length - 1 - t]? = some (V.int g') := by rw [List.getElem?_map, hg']; rfl
          have ha4 := alk_rev (xs := xs) (ys := ys) (t := t) (by omega) (by omega)
          refine ⟨_, rfl, _, rfl, a, _, rfl, .inr ha3, _, _, rfl, rfl, _, rfl, _, _, rfl, rfl, a, _, _, _, rfl, rfl, ha3, (by rw [lx, show ((xs.length : Nat) : Int) - 1 - (t : Nat) = ((xs.length - 1 - t : Nat) : Int) by omega]; exact atI_nat e1), ?_⟩
          refine ⟨_, rfl, _, rfl, b, _, rfl, .inr hb3, _, _, rfl, rfl, _, rfl, _, _, rfl, rfl, b, _, _, _, rfl, rfl, hb3, (by rw [ly, show ((ys.length : Nat) : Int) - 1 - (t : Nat) = ((ys.length - 1 - t : Nat) : Int) by omega]; exact atI_nat e2), rfl, _, rfl, ?_⟩
          by_cases e : g = g'
          · subst e
            rw [decide_eq_true rfl]
            refine iteT ⟨fun σ' H'' => σ' = [some cv, some p1, some p2, some (.ref a), some (.ref b), some (.int (F : Nat)), some (.int ((t + 1 : Nat) : Int)), some (.int (min xs.length ys.length : Nat))] ∧ H'' = H3, ?_, ?_⟩
            · rintro σ' H'' ⟨rfl, rfl⟩
              refine ⟨min xs.length ys.length - F - (t + 1), by omega, t + 1, rfl, rfl, by omega, fun j hj => ?_, rfl⟩
              rcases Nat.lt_succ_iff_lt_or_eq.mp hj with hj | hj
              · exact al j hj
              · rw [hj, ha4]; exact decide_eq_true (by rw [hg, hg'])
            · exact ⟨_, rfl, _, _, rfl, rfl, rfl, rfl⟩
          · rw [decide_eq_false (show ¬ V.int g = V.int g' from fun z => e (by injection z))]
            refine iteF ?_
            exact cont t ⟨ht, al, .inr (by rw [ha4]; exact decide_eq_false (by rw [hg, hg']; exact fun z => e (Option.some.inj z)))⟩
      · intro E1 hE
        have hEe : repE xs ys = E1 := by
          unfold repE
          rw [hFe]
          exact hE.uniq
        obtain ⟨le1, le2⟩ := rep_le xs ys
        rw [hFe, hEe] at le1 le2
        refine ⟨_, rfl, _, rfl, _, rfl, _, rfl, _, rfl, a, _, rfl, .inr ha3, _, rfl, _, _, rfl, rfl, _, rfl, ?_⟩
        rw [lx, show ((xs.length : Nat) : Int) - (E1 : Nat) = ((xs.length - E1 : Nat) : Int) by omega]
        refine sl_partV (lo := F) (hi := xs.length - E1) ha3 (by rw [lx]; omega) fun u1 H4 s4 hu1 => ?_
        refine ⟨_, rfl, _, rfl, _, rfl, _, rfl, b, _, rfl, .inr (same_tup s4 hb3), _, rfl, _, _, rfl, rfl, _, rfl, ?_⟩
        rw [ly, show ((ys.length : Nat) : Int) - (E1 : Nat) = ((ys.length - E1 : Nat) : Int) by omega]
        refine sl_partV (lo := F) (hi := ys.length - E1) (same_tup s4 hb3) (by rw [ly]; omega) fun u2 H5 s5 hu2 => ?_
        refine ⟨by show 3 ≤ sizeLine; decide, fun u3 h_u3 => ?_⟩
        have s_u3 := same_new (o := .tup [V.int (F : Nat), V.ref u1, V.ref u2]) h_u3
        have t_u3 : SqT K (upd H5 u3 (.tup [V.int (F : Nat), V.ref u1, V.ref u2])) u3 [V.int (F : Nat), V.ref u1, V.ref u2] := upd_tup
        generalize upd H5 u3 (.tup [V.int (F : Nat), V.ref u1, V.ref u2]) = H6 at s_u3 t_u3
        clear h_u3
        rw [← List.map_drop, ← List.map_take] at hu1 hu2
        refine q _ _ (((s13.trans s4).trans s5).trans s_u3) ?_
        unfold repD
        rw [hFe, hEe]
        exact .tup t_u3 (.cons (.int _) (.cons (.tup (same_tup (s5.trans s_u3) hu1) (dp_ints _)) (.cons (.tup (same_tup s_u3 hu2) (dp_ints _)) .nil)))
end
end My

set_option pp.maxSteps 700
/-! steps drawn one after another, with their reports and pairs -/
namespace My
open PySem PySem.Spec PyProof.Rows L2
def prs : Int × Int → List Nat → List Stp → List PyData
  | st, row, [] => [pairD2 st row]
  | st, row, s :: ss => pairD2 st row :: prs (s.st st) (s.row row) ss
theorem prs_snoc : ∀ (ss : List Stp) (st : Int × Int) (row : List Nat) (t : Stp), prs st row (ss ++ [t]) = prs st row ss ++ [pairD2 (endS st (ss ++ [t])) (endR row (ss ++ [t]))]
  | [], _, _, _ => rfl
  | a :: ss, st, row, t => by
    show pairD2 st row :: prs (a.st st) (a.row row) (ss ++ [t]) = _
    rw [prs_snoc ss]
    rfl
theorem prs_last : ∀ (ss : List Stp) (st : Int × Int) (row : List Nat), ∃ ds, prs st row ss = ds ++ [pairD2 (endS st ss) (endR row ss)]
  | [], _, _ => ⟨[], rfl⟩
  | a :: ss, st, row => by
    obtain ⟨ds, e⟩ := prs_last ss (a.st st) (a.row row)
    exact ⟨pairD2 st row :: ds, by show pairD2 st row :: prs (a.st st) (a.row row) ss = _; rw [e]; rfl⟩
theorem rpl_snoc (C : Cod) : ∀ (ss : List Stp) (st : Int × Int) (row : List Nat) (t : Stp), rpl C st row (ss ++ [t]) = rpl C st row ss ++ [repD (C.lev (endS st ss) (endR row ss)) (C.lev (endS st (ss ++ [t])) (endR row (ss ++ [t])))]
  | [], _, _, _ => rfl
  | a :: ss, st, row, t => by
    show repD _ _ :: rpl C (a.st st) (a.row row) (ss ++ [t]) = _
    rw [rpl_snoc C ss]
    rfl
section
variable {P : Program} {w : World} {K : PySem.W.Frag} {mg : Str → Option Value} {base : Heap}
/-- a list of data of the law's own -/
structure Ll (K : PySem.W.Frag) (H : Hp) (m c l S : Addr) (xs : List V) (ds : List PyData) : Prop where
  h : H S = some (.lst xs)
  da : DpAll K H xs ds
  nl : noLs ds = true
  nq : NQ m c l S
theorem Ll.same {H H' : Hp} {m c l S : Addr} {xs : List V} {ds : List PyData} (q : Ll K H m c l S xs ds) (s : Same H H') : Ll K H' m c l S xs ds := ⟨s _ _ q.h, dpAll_same s _ _ q.da, q.nl, q.nq⟩
theorem Ll.draw {H H' : Hp} {m c l l' n S : Addr} {xs : List V} {ds : List PyData} (q : Ll K H m c l S xs ds) (k : Kp m l H l' H') (D : Dr H m c l n) : Ll K H' m c l' S xs ds := ⟨k.st _ _ q.h q.nq.1 q.nq.2.2, dpAll_keep (keep_draw k D) _ _ q.nl q.da, q.nl, q.nq.kp k q.h⟩
theorem Ll.lst {H : Hp} {m c l S Z : Addr} {xs zs : List V} {o : HO} {ds : List PyData} (q : Ll K H m c l S xs ds) (hz : H Z = some (.lst zs)) (ne : S ≠ Z) : Ll K (upd H Z o) m c l S xs ds := ⟨(upd_ne ne).trans q.h, dpAll_keep (keep_set hz) _ _ q.nl q.da, q.nl, q.nq⟩
theorem noLs_mem : ∀ {ds : List PyData} {d : PyData}, noLs ds = true → d ∈ ds → noL d = true
  | a :: r, d, h, hd => by
    have h : (noL a && noLs r) = true := h
    obtain ⟨h1, h2⟩ := Bool.and_eq_true_iff.mp h
    rcases List.mem_cons.mp hd with e | e
    · rw [e]; exact h1
    · exact noLs_mem h2 e
theorem noLs_app {ds es : List PyData} (h1 : noLs ds = true) (h2 : noLs es = true) : noLs (ds ++ es) = true := noLs_all fun d hd => by
  rcases List.mem_append.mp hd with h | h
  · exact noLs_mem h1 h
  · exact noLs_mem h2 h
theorem Ll.app {H : Hp} {m c l S : Addr} {xs : List V} {v : V} {ds : List PyData} {d : PyData} (q : Ll K H m c l S xs ds) (hv : Dp K H v d) (hn : noL d = true) : Ll K (upd H S (.lst (xs ++ [v]))) m c l S (xs ++ [v]) (ds ++ [d]) := by
  have k := keep_set (o := .lst (xs ++ [v])) q.h
  exact ⟨upd_same, dpAll_app (dpAll_keep k _ _ q.nl q.da) (.cons (dp_keep k _ _ hn hv) .nil), noLs_app q.nl (by show (noL d && true) = true; rw [hn]; rfl), q.nq⟩
theorem prs_len : ∀ (ss : List Stp) (st : Int × Int) (row : List Nat), (prs st row ss).length = ss.length + 1
  | [], _, _ => rfl
  | a :: ss, st, row => by show (prs _ _ ss).length + 1 = ss.length + 1 + 1; rw [prs_len ss]
theorem rpl_len (C : Cod) : ∀ (ss : List Stp) (st : Int × Int) (row : List Nat), (rpl C st row ss).length = ss.length
  | [], _, _ => rfl
  | a :: ss, st, row => by show (rpl C _ _ ss).length + 1 = ss.length + 1; rw [rpl_len C ss]
theorem atI_last2 {xs : List V} {a b : V} : atI (xs ++ [a] ++ [b]) (-2) = some a := by
  have hl : (xs ++ [a] ++ [b]).length = xs.length + 2 := by simp
  have e : ixN (xs ++ [a] ++ [b]).length (-2) = some xs.length := by
    unfold ixN
    rw [hl, if_neg (by decide), if_pos (by omega)]
    congr 1
    omega
  unfold atI
  rw [e]
  show (xs ++ [a] ++ [b])[xs.length]? = some a
  simp
theorem kpSr {m l l' : Addr} {H H1 H' : Hp} (k : Kp m l H l' H1) (s : Same H1 H') : Kp m l H l' H' := ⟨fun b o h n1 n2 => s _ _ (k.st b o h n1 n2), k.nw, fun b h => k.dm b (s.free h)⟩
theorem kp_set {m l l' S : Addr} {H H' : Hp} {o : HO} (k : Kp m l H l' H') (hS : H S = none) : Kp m l H l' (upd H' S o) := ⟨fun b u h n1 n2 => (upd_ne (ne_of_none h hS)).trans (k.st _ _ h n1 n2), k.nw, fun b h => by
  by_cases e : b = S
  · rw [e]; exact hS
  · exact k.dm b ((upd_ne e).symm.trans h)⟩
def sp_law_some_steps (T : Txt K mg) : Sp := fun vs H Q _ => ∃ (m c l k : Addr) (cv pr : V) (C : Cod) (row : List Nat) (st : Int × Int), vs = [.ref m, cv, pr] ∧ Dr H m c l (k + 22) ∧ C.Ok ∧ Dp K H cv C.dat ∧ Dp K H pr (pairD2 st row) ∧ C.Row row ∧ C.St st ∧ row.length ≤ 1900 ∧
  ∀ (t S R P : Addr) (xs rs ps : List V) (ss : List Stp) l' H', Kp m l H l' H' → Dr H' m c l' k → SqT K H' t [.ref S, .ref R, .ref P] → Ll K H' m c l' S xs (ss.map Stp.dat) → Ll K H' m c l' R rs (rpl C st row ss) → Ll K H' m c l' P ps (prs st row ss) → H S = none → H R = none → H P = none → stpsOk C row ss → ss.length ≤ 7 → Q (.ref t) H'
set_option maxHeartbeats 2000000 in
theorem ok_law_some_steps (T : Txt K mg) : FnOk P w K mg base CX0 11 T.f__law_some_steps T.d__law_some_steps ["m", "coder", "pair"] (sp_law_some_steps T) := by
  refine T.F__law_some_steps.ok sc_law_some_steps (fun vs H Q E h => ?_) (fun cdv A outer s H vs Q E hr h => ?_)
  · obtain ⟨m, c, l, k, cv, pr, C, row, st, rfl, _⟩ := h
    rfl
  · obtain ⟨m, c, l, k, cv, pr, C, row, st, rfl, D, O, hcv, hpr, hR, hst, hrl, q⟩ := h
    refine ⟨_,
(pss_cons (ps_par3 (i := 3) (j := 4) (l := 5) (by rfl) sc_law_some_steps.nd rfl rfl rfl (by decide) (by decide) (by decide) rfl rfl rfl (pa_cons (pe_lst pa_nil) (pa_cons (pe_lst pa_nil) (pa_cons (pe_lst (pa_cons (pv 2) pa_nil)) pa_nil))) (by rfl))
      (pss_cons (ps_for PassesOwn.never rfl (pi_range1 (by rfl) T.z_range (pa_cons (pe_call (ok_law_next T) (hr.mono (by decide)) (by rfl) T.g__law_next T.F__law_next.kp T.b__law_next .nil pass0 (pa_cons (pv 0) (pa_cons pe_int pa_nil))) pa_nil)) (pg_name (i := 6) sc_law_some_steps.nd rfl (Or.inl rfl)) (pss_cons (ps_set (i := 7) sc_law_some_steps.nd rfl (Or.inl rfl) (pe_call (ok_law_step T) (hr.mono (by decide)) (by rfl) T.g__law_step T.F__law_step.kp T.b__law_step .nil pass0 (pa_cons (pv 0) (pa_cons (pv 1) (pa_cons (pe_ix ix_tup (pe_ix ix_list (pv 5) (pe_un un_neg pe_int) (fun _ _ => rfl)) pe_int (fun _ _ => rfl)) pa_nil)))))
      (pss_cons (ps_expr (pe_bm PySem.F.plainAttrs_list PySem.F.slot_list_append PySem.F.type_list_append mt_append (pv 3) (pa_cons (pv 7) pa_nil)))
      (pss_cons (ps_expr (pe_bm PySem.F.plainAttrs_list PySem.F.slot_list_append PySem.F.type_list_append mt_append (pv 5) (pa_cons (pe_call (ok_law_done T) (hr.mono (by decide)) (by rfl) T.g__law_done T.F__law_done.kp T.b__law_done .nil pass0 (pa_cons (pe_ix ix_list (pv 5) (pe_un un_neg pe_int) (fun _ _ => rfl)) (pa_cons (pv 7) pa_nil))) pa_nil)))
      (pss_one (ps_expr (pe_bm PySem.F.plainAttrs_list PySem.F.slot_list_append PySem.F.type_list_append mt_append (pv 4) (pa_cons (pe_call (ok_law_report T) (hr.mono (by decide)) (by rfl) T.g__law_report T.F__law_report.kp T.b__law_report .nil pass0 (pa_cons (pv 1) (pa_cons (pe_ix ix_list (pv 5) (pe_un un_neg pe_int) (fun _ _ => rfl)) (pa_cons (pe_ix ix_list (pv 5) (pe_un un_neg pe_int) (fun _ _ => rfl)) pa_nil)))) pa_nil))))))))
      (pss_one (ps_ret (pe_tup (pa_cons (pv 3) (pa_cons (pv 4) (pa_cons (pv 5) pa_nil))))))))
, ?_⟩
    refine ⟨by show 0 ≤ sizeLine; decide, fun S hS => ?_⟩
    have s1 := same_new (o := .lst []) hS
    have lS1 : Ll K (upd H S (.lst [])) m c l S [] [] := ⟨upd_same, .nil, rfl, NQ.new D hS⟩
    generalize upd H S (.lst []) = H1 at s1 lS1
    refine ⟨by show 0 ≤ sizeLine; decide, fun R hR1 => ?_⟩
    have s2 := same_new (o := .lst []) hR1
    have lR2 : Ll K (upd H1 R (.lst [])) m c l R [] [] := ⟨upd_same, .nil, rfl, NQ.new (D.same s1) hR1⟩
    have nSR : S ≠ R := ne_of_none lS1.h hR1
    generalize upd H1 R (.lst []) = H2 at s2 lR2
    have s12 := s1.trans s2
    refine ⟨_, rfl, by show 1 ≤ sizeLine; decide, fun P hP2 => ?_⟩
    have s3 := same_new (o := .lst [pr]) hP2
    have lP3 : Ll K (upd H2 P (.lst [pr])) m c l P [pr] (prs st row []) := ⟨upd_same, .cons (dp_same (s12.trans s3) _ _ hpr) .nil, by show (noL (pairD2 st row) && true) = true; rw [noL_pr]; rfl, NQ.new (D.same s12) hP2⟩
    have nSP : S ≠ P := ne_of_none (s2 _ _ lS1.h) hP2
    have nRP : R ≠ P := ne_of_none lR2.h hP2
    generalize upd H2 P (.lst [pr]) = H3 at s3 lP3
    have s03 := s12.trans s3
    refine ⟨_, _, _, rfl, ?_⟩
    dsimp only
    have hR0 : H R = none := s1.free hR1
    have hP0 : H P = none := s12.free hP2
    have D3 : Dr H3 m c l (k + 21 + 1) := D.same s03
    have hcv3 := dp_same s03 _ _ hcv
    refine ⟨_, rfl, m, c, l, k + 21, 7, rfl, by decide, by decide, D3, fun n1 l4 H4 p0 p1 kp D4 => ?_⟩
    have lS4 := (lS1.same (s2.trans s3)).draw kp D3
    have lR4 := (lR2.same s3).draw kp D3
    have lP4 := lP3.draw kp D3
    have hcv4 := dp_keep (keep_draw kp D3) _ _ (noL_cod C) hcv3
    have kp4 : Kp m l H l4 H4 := ⟨fun b o h n1 n2 => kp.st b o (s03 b o h) n1 n2, kp.nw.imp id s03.free, fun b h => s03.free (kp.dm b h)⟩
    clear s1 s2 s3 s12 s03 lS1 lR2 lP3 kp D3 hcv3 hR1 hP2
    refine ⟨_, rfl, by omega, by omega, ?_⟩
    have hn1 : n1.toNat ≤ 7 := by omega
    refine for_range (lo := 0) (n := n1.toNat) (fun j σ H' => ∃ x6 x7 xs rs ps ss l', σ = [some (.ref m), some cv, some pr, some (.ref S), some (.ref R), some (.ref P), x6, x7] ∧ Kp m l H l' H' ∧ Dr H' m c l' (k + 3 * (7 - j)) ∧ Dp K H' cv C.dat ∧
      Ll K H' m c l' S xs (ss.map Stp.dat) ∧ Ll K H' m c l' R rs (rpl C st row ss) ∧ Ll K H' m c l' P ps (prs st row ss) ∧ stpsOk C row ss ∧ ss.length = j) ⟨none, none, [], [], [pr], [], l4, rfl, kp4, D4.less (by omega), hcv4, lS4, lR4, lP4, True.intro, rfl⟩ ?_ ?_
    · rintro j σ H' hj ⟨x6, x7, xs, rs, ps, ss, l', rfl, kp, D', hcv, lS, lR, lP, ok, hsl⟩
      have D' : Dr H' m c l' (k + 3 * (7 - (j + 1)) + 3) := D'.less (by omega)
      have hle := endR_len ok
      obtain ⟨ds, eds⟩ := prs_last ss st row
      obtain ⟨ps', pl, eps, _, hpl⟩ := dpAll_snoc (by have := lP.da; rw [eds] at this; exact this)
      subst eps
      obtain ⟨pa, pxs, rfl, hpa, hpd⟩ := dp_tup hpl
      obtain ⟨q1, q2, rfl, hq1, hq2⟩ := dpAll2 hpd
      refine ⟨_, rfl, _, rfl, _, rfl, 1, rfl, P, _, -1, _, rfl, rfl, SqL.of lP.h, atI_last _ _, pa, _, 1, _, rfl, rfl, hpa, atI_nat (j := 1) rfl, m, c, l', k + 3 * (7 - (j + 1)), cv, q2, C, endR row ss, rfl, D', O, hcv, hq2, by omega, fun v t l'' HC kpC DC hv okt => ?_⟩
      have lS := lS.draw kpC D'
      have lR := lR.draw kpC D'
      have lP := lP.draw kpC D'
      have hpl := dp_keep (keep_draw kpC D') _ _ (noL_pr _ _) hpl
      have hcv := dp_keep (keep_draw kpC D') _ _ (noL_cod C) hcv
      have kp := kp.trans kpC
      have hle2 := stp_len okt
      have okT : stpsOk C row (ss ++ [t]) := stpsOk_snoc.mpr ⟨ok, okt, by omega⟩
      clear kpC D' hpa hpd hq1 hq2
      have hxl := dpAll_len lS.da
      have hpl2 := dpAll_len lP.da
      have hrl2 := dpAll_len lR.da
      rw [List.length_map] at hxl
      -- steps.append
      refine ⟨_, rfl, .inl ⟨rfl, _, SqL.of lS.h⟩, _, rfl, S, xs, _, rfl, rfl, lS.h, Nat.lt_of_le_of_lt (show xs.length ≤ 100 by omega) (by decide), ?_⟩
      have lS6 := lS.app hv (noL_stp _)
      have lR6 := lR.lst (o := .lst (xs ++ [v])) lS.h nSR.symm
      have lP6 := lP.lst (o := .lst (xs ++ [v])) lS.h nSP.symm
      have kk6 := keep_set (o := .lst (xs ++ [v])) lS.h
      have hv6 := dp_keep kk6 _ _ (noL_stp _) hv
      have hpl6 := dp_keep kk6 _ _ (noL_pr _ _) hpl
      have hcv6 := dp_keep kk6 _ _ (noL_cod C) hcv
      have kp6 := kp_set (o := .lst (xs ++ [v])) kp hS
      have D6 := DC.set (o := .lst (xs ++ [v])) lS.nq.1 lS.nq.2.1 lS.nq.2.2
      generalize upd HC S (.lst (xs ++ [v])) = H6 at lS6 lR6 lP6 hv6 hpl6 hcv6 kp6 D6
      clear lS lR lP hv hpl hcv kp kk6 DC
      refine ⟨_, rfl, .inl ⟨rfl, _, SqL.of lP6.h⟩, _, rfl, 1, rfl, P, _, -1, _, rfl, rfl, SqL.of lP6.h, atI_last _ _, _, rfl, .ref pa, v, C, endR row ss, endS st ss, t, rfl, hpl6, hv6, okt, by omega, fun q' H7 s7 hq => ?_⟩
      rw [← endR_snoc, ← endS_snoc] at hq
      have lS7 := lS6.same s7
      have lR7 := lR6.same s7
      have lP7 := lP6.same s7
      refine ⟨P, _, _, rfl, rfl, lP7.h, Nat.lt_of_le_of_lt (show (ps' ++ [V.ref pa]).length ≤ 100 by rw [hpl2, eds, List.length_append]; have := congrArg List.length eds; rw [prs_len, List.length_append] at this; have : ss.length + 1 = ds.length + 1 := this; show ds.length + 1 ≤ 100; omega) (by decide), ?_⟩
      have lP8 := lP7.app hq (noL_pr _ _)
      have lS8 := lS7.lst (o := .lst (ps' ++ [V.ref pa] ++ [q'])) lP7.h nSP
      have lR8 := lR7.lst (o := .lst (ps' ++ [V.ref pa] ++ [q'])) lP7.h nRP
      have kk8 := keep_set (o := .lst (ps' ++ [V.ref pa] ++ [q'])) lP7.h
      have hq8 := dp_keep kk8 _ _ (noL_pr _ _) hq
      have hpl8 := dp_keep kk8 _ _ (noL_pr _ _) (dp_same s7 _ _ hpl6)
      have hcv8 := dp_keep kk8 _ _ (noL_cod C) (dp_same s7 _ _ hcv6)
      have kp8 := kp_set (o := .lst (ps' ++ [V.ref pa] ++ [q'])) (kpSr kp6 s7) hP0
      have D8 := (D6.same s7).set (o := .lst (ps' ++ [V.ref pa] ++ [q'])) lP7.nq.1 lP7.nq.2.1 lP7.nq.2.2
      generalize upd H7 P (.lst (ps' ++ [V.ref pa] ++ [q'])) = H8 at lS8 lR8 lP8 hq8 hpl8 hcv8 kp8 D8
      refine ⟨_, rfl, .inl ⟨rfl, _, SqL.of lR8.h⟩, _, rfl, _, rfl, 2, rfl, P, _, -2, .ref pa, rfl, rfl, SqL.of lP8.h, atI_last2, _, rfl, 1, rfl, P, _, -1, q', rfl, rfl, SqL.of lP8.h, atI_last _ _, cv, .ref pa, q', C, endR row ss, endR row (ss ++ [t]), endS st ss, endS st (ss ++ [t]), rfl, O, hcv8, hpl8, hq8, (stps_end (C := C) (row := row) (st := st) ok hR hst).1, (stps_end (C := C) (row := row) (st := st) okT hR hst).1, (stps_end (C := C) (row := row) (st := st) ok hR hst).2, (stps_end (C := C) (row := row) (st := st) okT hR hst).2, fun z H9 s9 hz => ?_⟩
      have kk9 := keep_set (o := .lst (rs ++ [z])) (s9 _ _ lR8.h)
      refine ⟨R, _, _, rfl, rfl, s9 _ _ lR8.h, Nat.lt_of_le_of_lt (show rs.length ≤ 100 by rw [hrl2, rpl_len]; omega) (by decide), ?_⟩
      refine ⟨_, _, xs ++ [v], rs ++ [z], ps' ++ [V.ref pa] ++ [q'], ss ++ [t], l'', rfl, kp_set (kpSr kp8 s9) hR0, (D8.same s9).set lR8.nq.1 lR8.nq.2.1 lR8.nq.2.2, dp_keep kk9 _ _ (noL_cod C) (dp_same s9 _ _ hcv8), ?_, ?_, ?_, okT, by rw [List.length_append, hsl]; rfl⟩
      · rw [List.map_append]
        exact (lS8.same s9).lst (s9 _ _ lR8.h) nSR
      · rw [rpl_snoc]
        exact (lR8.same s9).app hz (noL_rep _ _)
      · rw [prs_snoc]
        exact (lP8.same s9).lst (s9 _ _ lR8.h) nRP.symm
    · rintro σ H' ⟨x6, x7, xs, rs, ps, ss, l', rfl, kp, D', _, lS, lR, lP, ok, hsl⟩
      refine ⟨_, rfl, _, rfl, _, rfl, ?_⟩
      refine ⟨by show 3 ≤ sizeLine; decide, fun t h_t => ?_⟩
      have s_t := same_new (o := .tup [V.ref S, V.ref R, V.ref P]) h_t
      have t_t : SqT K (upd H' t (.tup [V.ref S, V.ref R, V.ref P])) t [V.ref S, V.ref R, V.ref P] := upd_tup
      generalize upd H' t (.tup [V.ref S, V.ref R, V.ref P]) = H2 at s_t t_t
      clear h_t
      refine q t S R P xs rs ps ss l' H2 ⟨fun b o h n1 n2 => s_t _ _ (kp.st b o h n1 n2), kp.nw, fun b h => kp.dm b (s_t.free h)⟩ ((D'.same s_t).less (by omega)) t_t (lS.same s_t) (lR.same s_t) (lP.same s_t) hS hR0 hP0 ok (by omega)
end
end My

set_option pp.maxSteps 700
/-! what stands beside a desk; what every part of the law leaves as it is -/
namespace My
open PySem PySem.Spec PyProof.Rows L2 LamX
section
variable {P : Program} {w : World} {K : PySem.W.Frag} {mg : Str → Option Value} {base : Heap}
theorem do_bad {T : Txt K mg} {H : Hp} {p f d u : Addr} {v : V} {C : Cod} {row0 row : List Nat} {st0 st : Int × Int} {dn un : List (Stp × Edt)} {n : Nat} {Q : VK} {E : XK} (dk : DkS T H p f d u C row0 st0 row st dn un n) (hb : BadT K H C row v) (hm : dn.length < 90000)
    (q : ∀ H', DkF p d u H H' → DkS T H' p f d u C row0 st0 row st dn un (n + 1) → NilE T.C_OutOfPlace H' E) : sp_Desk_do T [.ref p, v] H Q E :=
  ⟨p, f, d, u, v, C, row0, row, st0, st, dn, un, n, rfl, dk, hm, .inr (.inl ⟨hb, fun H' F D => q H' F D H' (Same.refl H')⟩)⟩
theorem do_full {T : Txt K mg} {H : Hp} {p f d u : Addr} {v : V} {C : Cod} {row0 row : List Nat} {st0 st : Int × Int} {dn un : List (Stp × Edt)} {n i k : Nat} {Q : VK} {E : XK} (dk : DkS T H p f d u C row0 st0 row st dn un n) (hv : Dp K H v (Stp.put i k).dat) (ok : (Stp.put i k).Ok C row) (hl : row.length = 2000) (hm : dn.length < 90000)
    (q : ∀ H', DkF p d u H H' → DkS T H' p f d u C row0 st0 row st dn un (n + 1) → OneE T.C_TooGreat "most" H' E (.int 2000)) : sp_Desk_do T [.ref p, v] H Q E :=
  ⟨p, f, d, u, v, C, row0, row, st0, st, dn, un, n, rfl, dk, hm, .inr (.inr ⟨i, k, hv, ok, hl, fun dd H' F D hd => q H' F D dd H' (Same.refl H') hd⟩)⟩
theorem do_good {T : Txt K mg} {H : Hp} {p f d u : Addr} {v : V} {C : Cod} {row0 row : List Nat} {st0 st : Int × Int} {dn un : List (Stp × Edt)} {n : Nat} {s : Stp} {Q : VK} {E : XK} (dk : DkS T H p f d u C row0 st0 row st dn un n) (hv : Dp K H v s.dat) (ok : s.Ok C row) (hl : (s.row row).length ≤ 2000) (hm : dn.length < 90000)
    (q : ∀ z u' H', DkF p d u H H' → H u' = none → DkS T H' p f d u' C row0 st0 (s.row row) (s.st st) (dn ++ [(s, s.edt row st)]) [] (n + 1) → Dp K H' z (repD (C.lev st row) (C.lev (s.st st) (s.row row))) → Q z H') : sp_Desk_do T [.ref p, v] H Q E :=
  ⟨p, f, d, u, v, C, row0, row, st0, st, dn, un, n, rfl, dk, hm, .inl ⟨s, hv, ok, hl, q⟩⟩
theorem DkS.extN {T : Txt K mg} {H H' : Hp} {p f d u : Addr} {C : Cod} {row0 row : List Nat} {st0 st : Int × Int} {dn un : List (Stp × Edt)} {n : Nat} (h : DkS T H p f d u C row0 st0 row st dn un n) (e : ExtN H H') : DkS T H' p f d u C row0 st0 row st dn un n := by
  obtain ⟨dx, r, x, h1, h2, h3⟩ := h.ob
  obtain ⟨dxf, c0, r0, x0, hf, f1, f2, f3⟩ := h.fc.ex
  obtain ⟨xs, d1, d2⟩ := h.dl
  obtain ⟨ys, u1, u2⟩ := h.ul
  exact ⟨⟨dx, r, x, e _ _ h1 nofun, dp_ext e _ _ h2, dp_ext e _ _ h3⟩, ⟨⟨dxf, c0, r0, x0, e _ _ hf nofun, dp_ext e _ _ f1, dp_ext e _ _ f2, dp_ext e _ _ f3⟩, h.fc.O, h.fc.R, h.fc.St⟩, ⟨xs, e _ _ d1 nofun, dpAll_ext e _ _ d2⟩, ⟨ys, e _ _ u1 nofun, dpAll_ext e _ _ u2⟩, h.du, h.R, h.St⟩
/-- what stands beside a desk -/
structure Fr (T : Txt K mg) (H : Hp) (m c l k : Addr) (p f d u : Addr) (cv pr : V) (pd : PyData) (C : Cod) (row0 : List Nat) (st0 : Int × Int) (row : List Nat) (st : Int × Int) (dn un : List (Stp × Edt)) (n : Nat) : Prop where
  D : Dr H m c l k
  Tb : Tabs (TL T) H
  cv : Dp K H cv C.dat
  pr : Dp K H pr pd
  np : noL pd = true
  dk : DkS T H p f d u C row0 st0 row st dn un n
  nd : NQ m c l d
  nu : NQ m c l u
theorem Fr.same {T : Txt K mg} {H H' : Hp} {m c l k p f d u : Addr} {cv pr : V} {pd : PyData} {C : Cod} {row0 row : List Nat} {st0 st : Int × Int} {dn un : List (Stp × Edt)} {n : Nat} (h : Fr T H m c l k p f d u cv pr pd C row0 st0 row st dn un n) (s : Same H H') : Fr T H' m c l k p f d u cv pr pd C row0 st0 row st dn un n :=
  ⟨h.D.same s, tabs_same h.Tb s, dp_same s _ _ h.cv, dp_same s _ _ h.pr, h.np, h.dk.same s, h.nd, h.nu⟩
theorem Fr.ext {T : Txt K mg} {H H' : Hp} {m c l k p f d u : Addr} {cv pr : V} {pd : PyData} {C : Cod} {row0 row : List Nat} {st0 st : Int × Int} {dn un : List (Stp × Edt)} {n : Nat} (h : Fr T H m c l k p f d u cv pr pd C row0 st0 row st dn un n) (e : ExtN H H') (t : Tabs (TL T) H') : Fr T H' m c l k p f d u cv pr pd C row0 st0 row st dn un n :=
  ⟨dr_ext h.D e, t, dp_ext e _ _ h.cv, dp_ext e _ _ h.pr, h.np, h.dk.extN e, h.nd, h.nu⟩
theorem Fr.dkf {T : Txt K mg} {H H' : Hp} {m c l k p f d u u' : Addr} {cv pr : V} {pd : PyData} {C : Cod} {row0 row row' : List Nat} {st0 st st' : Int × Int} {dn un dn' un' : List (Stp × Edt)} {n n' : Nat} (h : Fr T H m c l k p f d u cv pr pd C row0 st0 row st dn un n) (F : DkF p d u H H') (hu : u' = u ∨ H u' = none) (dk : DkS T H' p f d u' C row0 st0 row' st' dn' un' n') : Fr T H' m c l k p f d u' cv pr pd C row0 st0 row' st' dn' un' n' := by
  obtain ⟨dx, r, x, hp, _⟩ := h.dk.ob
  obtain ⟨ds, hd, _⟩ := h.dk.dl
  obtain ⟨us, hu0, _⟩ := h.dk.ul
  have kF := F.keep hp hd hu0
  refine ⟨dr_dkf h.D F hp h.nd h.nu, tabs_dkf h.Tb F hp hd hu0, dp_keep kF _ _ (noL_cod _) h.cv, dp_keep kF _ _ h.np h.pr, h.np, dk, h.nd, ?_⟩
  rcases hu with rfl | hu
  · exact h.nu
  · exact NQ.new h.D hu
theorem Fr.less {T : Txt K mg} {H : Hp} {m c l p f d u : Addr} {k k' : Nat} {cv pr : V} {pd : PyData} {C : Cod} {row0 row : List Nat} {st0 st : Int × Int} {dn un : List (Stp × Edt)} {n : Nat} (h : Fr T H m c l k p f d u cv pr pd C row0 st0 row st dn un n) (e : k' ≤ k) : Fr T H m c l k' p f d u cv pr pd C row0 st0 row st dn un n := ⟨h.D.less e, h.Tb, h.cv, h.pr, h.np, h.dk, h.nd, h.nu⟩
theorem Fr.draw {T : Txt K mg} {H H' : Hp} {m c l l' p f d u : Addr} {k k' : Nat} {cv pr : V} {pd : PyData} {C : Cod} {row0 row : List Nat} {st0 st : Int × Int} {dn un : List (Stp × Edt)} {n : Nat} (h : Fr T H m c l k p f d u cv pr pd C row0 st0 row st dn un n) (kp : Kp m l H l' H') (D' : Dr H' m c l' k') : Fr T H' m c l' k' p f d u cv pr pd C row0 st0 row st dn un n := by
  have kk := keep_draw kp h.D
  obtain ⟨xs, hd, _⟩ := h.dk.dl
  obtain ⟨ys, hu, _⟩ := h.dk.ul
  exact ⟨D', tabs_kp h.Tb kp h.D, dp_keep kk _ _ (noL_cod C) h.cv, dp_keep kk _ _ h.np h.pr, h.np, h.dk.kp kp h.D h.nd h.nu, h.nd.kp kp hd, h.nu.kp kp hu⟩
theorem mk_desk {T : Txt K mg} {H : Hp} {mo p dp : Addr} {C : Cod} {row : List Nat} {st : Int × Int} {Q : VK} {E : XK} (hmo : ClS T H mo C row st) (hpn : H p = none) (hdpn : H dp = none)
    (q : ∀ f d u H', Same H H' → H f = none → H d = none → H u = none → DkS T H' p f d u C row st row st [] [] 0 → Q .non H') : sp_Desk_init T [.ref p, .ref mo] (upd (upd H dp (.own p)) p (.ins T.C_Desk dp [])) Q E := by
  have sy : Same H (upd (upd H dp (.own p)) p (.ins T.C_Desk dp [])) := same_put2 (same_new hdpn) hpn
  refine ⟨p, dp, .ref mo, rfl, upd_same, .inr ⟨mo, C, row, st, rfl, hmo.same sy, T.ne_cd, fun f d u H' Fst Fdm hf hd hu hDk => ?_⟩⟩
  exact q f d u H' (fun b o h => Fst b o (sy b o h) (ne_of_none h hpn)) (sy.free hf) (sy.free hd) (sy.free hu) hDk
theorem all_bad {T : Txt K mg} {H : Hp} {p f d u L : Addr} {xs yr : List V} {y : V} {ss : List Stp} {C : Cod} {row0 row : List Nat} {st0 st : Int × Int} {dn un : List (Stp × Edt)} {n : Nat} {Q : VK} {E : XK} (dk : DkS T H p f d u C row0 st0 row st dn un n) (hL : H L = some (.lst (xs ++ y :: yr)) ∨ SqT K H L (xs ++ y :: yr)) (hxs : DpAll K H xs (ss.map Stp.dat)) (ok : stpsOk C row ss) (hm : dn.length + ss.length ≤ 100000)
    (hb : BadT K H C (endR row ss) y) (q : ∀ H', DkF p d u H H' → DkS T H' p f d u C row0 st0 row st dn un (n + 1) → NilE T.C_OutOfPlace H' E) : sp_Desk_do_all T [.ref p, .ref L] H Q E :=
  ⟨p, f, d, u, .ref L, C, row0, row, st0, st, dn, un, n, rfl, dk, .inl ⟨L, xs, y :: yr, ss, rfl, hL, hxs, ok, hm, .inr ⟨y, yr, rfl, .inl ⟨hb, fun H' F D => q H' F D H' (Same.refl H')⟩⟩⟩⟩
theorem all_odd {T : Txt K mg} {H : Hp} {p f d u : Addr} {v : V} {C : Cod} {row0 row : List Nat} {st0 st : Int × Int} {dn un : List (Stp × Edt)} {n : Nat} {Q : VK} {E : XK} (dk : DkS T H p f d u C row0 st0 row st dn un n) (hty : ∀ H', DkF p d u H H' → DkS T H' p f d u C row0 st0 row st dn un (n + 1) → ∃ ty : Value, TyX K H' v ty ∧ PySem.W.kitOne K ty (.type "list") = some false ∧ PySem.W.kitOne K ty (.type "tuple") = some false)
    (q : ∀ H', DkF p d u H H' → DkS T H' p f d u C row0 st0 row st dn un (n + 1) → NilE T.C_OutOfPlace H' E) : sp_Desk_do_all T [.ref p, v] H Q E :=
  ⟨p, f, d, u, v, C, row0, row, st0, st, dn, un, n, rfl, dk, .inr ⟨hty, fun H' F D => q H' F D H' (Same.refl H')⟩⟩
theorem all_nil {T : Txt K mg} {H : Hp} {p f d u L : Addr} {C : Cod} {row0 row : List Nat} {st0 st : Int × Int} {dn un : List (Stp × Edt)} {n : Nat} {Q : VK} {E : XK} (dk : DkS T H p f d u C row0 st0 row st dn un n) (hL : SqT K H L []) (hm : dn.length ≤ 100000)
    (q : ∀ R H', DkF p d u H H' → H' R = some (.lst []) → DkS T H' p f d u C row0 st0 row st dn un (n + 1) → Q (.ref R) H') : sp_Desk_do_all T [.ref p, .ref L] H Q E :=
  ⟨p, f, d, u, .ref L, C, row0, row, st0, st, dn, un, n, rfl, dk, .inl ⟨L, [], [], [], rfl, .inr hL, .nil, True.intro, hm, .inl ⟨rfl, fun R reps u' H' F hR _ hreps hz _ D => by
    obtain rfl := hz rfl
    cases hreps
    have D' : DkS T H' p f d u' C row0 st0 row st (dn ++ []) un (n + 1) := D
    rw [List.append_nil] at D'
    exact q R H' F hR D'⟩⟩⟩
/-- what every part of the law leaves as it is -/
structure Inv (T : Txt K mg) (m c p d u : Addr) (I : Addr → Hp → Prop) : Prop where
  same : ∀ {l H H'}, Same H H' → I l H → I l H'
  ext : ∀ {l H H'}, ExtN H H' → I l H → I l H'
  draw : ∀ {l l' k H H'}, Kp m l H l' H' → Dr H m c l k → I l H → I l' H'
  dkf : ∀ {l H H' dx fs xs ys}, DkF p d u H H' → H p = some (.ins T.C_Desk dx fs) → H d = some (.lst xs) → H u = some (.lst ys) → I l H → I l H'
theorem Inv.none (T : Txt K mg) (m c p d u : Addr) : Inv T m c p d u (fun _ _ => True) := ⟨fun _ h => h, fun _ h => h, fun _ _ h => h, fun _ _ _ _ h => h⟩
theorem Ll.ext {H H' : Hp} {m c l S : Addr} {xs : List V} {ds : List PyData} (q : Ll K H m c l S xs ds) (e : ExtN H H') : Ll K H' m c l S xs ds := ⟨e _ _ q.h nofun, dpAll_ext e _ _ q.da, q.nl, q.nq⟩
theorem Ll.dkf {H H' : Hp} {m c l p d u S C dx : Addr} {fs : List (Str × V)} {ds us xs : List V} {es : List PyData} (q : Ll K H m c l S xs es) (F : DkF p d u H H') (hp : H p = some (.ins C dx fs)) (hd : H d = some (.lst ds)) (hu : H u = some (.lst us)) (nd : S ≠ d) (nu : S ≠ u) : Ll K H' m c l S xs es :=
  ⟨F.st _ _ q.h (fun e => by have := q.h; rw [e, hp] at this; cases this) nd nu, dpAll_keep (F.keep hp hd hu) _ _ q.nl q.da, q.nl, q.nq⟩
theorem Inv.add {T : Txt K mg} {m c p d u S : Addr} {xs : List V} {ds : List PyData} {I : Addr → Hp → Prop} (h : Inv T m c p d u I) (nd : S ≠ d) (nu : S ≠ u) : Inv T m c p d u (fun l H => I l H ∧ Ll K H m c l S xs ds) where
  same s z := ⟨h.same s z.1, z.2.same s⟩
  ext e z := ⟨h.ext e z.1, z.2.ext e⟩
  draw k D z := ⟨h.draw k D z.1, z.2.draw k D⟩
  dkf F a b c' z := ⟨h.dkf F a b c' z.1, z.2.dkf F a b c' nd nu⟩
/-- the desk tries in vain, all else stands -/
theorem Fr.tick {T : Txt K mg} {H H' : Hp} {m c l k p f d u : Addr} {cv pr : V} {pd : PyData} {C : Cod} {row0 row : List Nat} {st0 st : Int × Int} {dn un : List (Stp × Edt)} {n n' : Nat} {I : Addr → Hp → Prop} (h : Fr T H m c l k p f d u cv pr pd C row0 st0 row st dn un n) (J : Inv T m c p d u I) (i : I l H) (F : DkF p d u H H') (dk : DkS T H' p f d u C row0 st0 row st dn un n') : Fr T H' m c l k p f d u cv pr pd C row0 st0 row st dn un n' ∧ I l H' := by
  obtain ⟨dx, r, x, hp, _⟩ := h.dk.ob
  obtain ⟨ds, hd, _⟩ := h.dk.dl
  obtain ⟨us, hu0, _⟩ := h.dk.ul
  exact ⟨h.dkf F (.inl rfl) dk, J.dkf F hp hd hu0 i⟩
end
end My

set_option pp.maxSteps 700
namespace My
open PySem PySem.Spec PyProof.Rows L2 LamX
theorem prs_get : ∀ (ss : List Stp) (st : Int × Int) (row : List Nat) (i : Nat), i ≤ ss.length → (prs st row ss)[i]? = some (pairD2 (endS st (ss.take i)) (endR row (ss.take i)))
  | [], st, row, i, h => by
    obtain rfl : i = 0 := Nat.le_zero.mp h
    rfl
  | s :: ss, st, row, 0, _ => rfl
  | s :: ss, st, row, i + 1, h => prs_get ss (s.st st) (s.row row) i (Nat.le_of_succ_le_succ h)
theorem stpsOk_take {C : Cod} : ∀ {ss : List Stp} {row : List Nat} (i : Nat), stpsOk C row ss → stpsOk C row (ss.take i)
  | [], _, i, h => by rw [List.take_nil]; exact h
  | _ :: _, _, 0, _ => True.intro
  | _ :: _, _, i + 1, h => ⟨h.1, h.2.1, stpsOk_take i h.2.2⟩
theorem endR_le56 {C : Cod} : ∀ {ss : List Stp} {row : List Nat}, stpsOk C row ss → (endR row ss).length ≤ row.length + ss.length
  | [], _, _ => Nat.le_refl _
  | s :: ss, row, h => by
    have h1 := stp_len h.1
    have h2 := endR_le56 h.2.2
    show (endR (s.row row) ss).length ≤ row.length + (ss.length + 1)
    omega
section
variable {P : Program} {w : World} {K : PySem.W.Frag} {mg : Str → Option Value} {base : Heap}
/-- what is no list of steps -/
def NoSq (K : PySem.W.Frag) (H : Hp) (p d u : Addr) (v : V) : Prop := v = .non ∨ v = .str "put" ∨ v = .int 0 ∨ (∃ a, v = .ref a ∧ H a = some (.dK []) ∧ a ≠ p ∧ a ≠ d ∧ a ≠ u) ∨ (∃ a, v = .ref a ∧ SqT K H a [.str "put", .int 0, .int 0]) ∨ v = .ref p ∨ v = .bl true
theorem NoSq.imp {H H' : Hp} {p d u : Addr} {v : V} (h : NoSq K H p d u v) (s1 : ∀ a, H a = some (.dK []) → H' a = some (.dK [])) (s2 : ∀ a xs, SqT K H a xs → SqT K H' a xs) : NoSq K H' p d u v := by
  rcases h with h | h | h | ⟨a, e, h, n⟩ | ⟨a, e, h⟩ | h | h
  · exact .inl h
  · exact .inr (.inl h)
  · exact .inr (.inr (.inl h))
  · exact .inr (.inr (.inr (.inl ⟨a, e, s1 a h, n⟩)))
  · exact .inr (.inr (.inr (.inr (.inl ⟨a, e, s2 a _ h⟩))))
  · exact .inr (.inr (.inr (.inr (.inr (.inl h)))))
  · exact .inr (.inr (.inr (.inr (.inr (.inr h)))))
theorem none_all {T : Txt K mg} {H : Hp} {p f d u : Addr} {v : V} {C : Cod} {row0 row : List Nat} {st0 st : Int × Int} {dn un : List (Stp × Edt)} {n : Nat} {Q : VK} {E : XK} (h : NoSq K H p d u v) (dk : DkS T H p f d u C row0 st0 row st dn un n) (hm : dn.length ≤ 100000)
    (q : ∀ H', DkF p d u H H' → DkS T H' p f d u C row0 st0 row st dn un (n + 1) → NilE T.C_OutOfPlace H' E) : sp_Desk_do_all T [.ref p, v] H Q E := by
  rcases h with h | h | h | ⟨a, e, h, n1, n2, n3⟩ | ⟨a, e, h⟩ | h | h
  · subst h; exact all_odd dk (fun H' F D => ⟨.type "NoneType", .base .non, kit_ty (by decide +kernel), kit_ty (by decide +kernel)⟩) q
  · subst h; exact all_odd dk (fun H' F D => ⟨.type "str", tyx (.str _), kit_ty (by decide +kernel), kit_ty (by decide +kernel)⟩) q
  · subst h; exact all_odd dk (fun H' F D => ⟨.type "int", tyx (.int _), kit_ty (by decide +kernel), kit_ty (by decide +kernel)⟩) q
  · subst e; exact all_odd dk (fun H' F D => ⟨.type "dict", .base (.dK (F.st _ _ h n1 n2 n3)), kit_ty (by decide +kernel), kit_ty (by decide +kernel)⟩) q
  · subst e
    exact all_bad (ss := []) (xs := []) dk (.inr h) .nil True.intro hm (bad_ty (tyx (.str _)) (kit_ty (by decide +kernel))) q
  · subst h; exact all_odd dk (fun H' F D => by obtain ⟨dx, r, x, hp, _⟩ := D.ob; exact ⟨_, T.is_Desk.ty T.cl_Desk hp, T.kl_Desk, T.kt_Desk⟩) q
  · subst h; exact all_odd dk (fun H' F D => ⟨.type "bool", tyx (.bl _), kit_ty (by decide +kernel), kit_ty (by decide +kernel)⟩) q
def sp_law_none_right (T : Txt K mg) : Sp := fun vs H Q _ => ∃ (m c l k p f d u : Addr) (cv pr : V) (C : Cod) (row0 : List Nat) (st0 : Int × Int) (row : List Nat) (st : Int × Int) (dn un : List (Stp × Edt)) (n : Nat) (I : Addr → Hp → Prop), vs = [.ref m, .ref p, cv, pr, .int (n : Nat)] ∧ Fr T H m c l (k + 30) p f d u cv pr (pairD2 st row) C row0 st0 row st dn un n ∧ Inv T m c p d u I ∧ I l H ∧ row.length ≤ 1900 ∧ dn.length ≤ 100 ∧ n ≤ 1000 ∧ (∀ y ∈ dn, y.1.Sm) ∧
  ∀ l' H', Fr T H' m c l' k p f d u cv pr (pairD2 st row) C row0 st0 row st dn un (n + 3) → I l' H' → Q (.bl true) H'
set_option maxHeartbeats 4000000 in
theorem ok_law_none_right (T : Txt K mg) (TB : TabB base mg T.c__law_none_right T.P__law_none_right) : FnG P w K mg base 17 T.f__law_none_right T.d__law_none_right ["m", "desk", "coder", "pair", "tries"] (sp_law_none_right T) := by
  refine okGc T.F__law_none_right T.cd__law_none_right sc_law_none_right (fun vs H Q E h => ?_) (fun A outer s H vs Q E hgd hr h => ?_)
  · obtain ⟨m, c, l, k, p, f, d, u, cv, pr, C, row0, st0, row, st, dn, un, n, I, rfl, _⟩ := h
    rfl
  · obtain ⟨m, c, l, k, p, f, d, u, cv, pr, C, row0, st0, row, st, dn, un, n, I, rfl, B, J, i, hrl, hdl, hn, sm, q⟩ := h
    refine ⟨_,
(pss_cons (ps_asg (pe_call (ok_law_some_steps T) (hr.mono (by decide)) (by rfl) T.g__law_some_steps T.F__law_some_steps.kp T.b__law_some_steps .nil pass0 (pa_cons (pv 0) (pa_cons (pv 2) (pa_cons (pv 3) pa_nil)))) (pg_tup (by rfl) (pgs_cons (pg_name (i := 5) sc_law_none_right.nd rfl (Or.inl rfl)) (pgs_cons (pg_name (i := 6) sc_law_none_right.nd rfl (Or.inl rfl)) (pgs_cons (pg_name (i := 7) sc_law_none_right.nd rfl (Or.inl rfl)) pgs_nil)))))
      (pss_cons (ps_par (i := 8) (j := 9) (by rfl) sc_law_none_right.nd rfl rfl (by decide) rfl rfl (pa_cons (pe_call (ok_law_next T) (hr.mono (by decide)) (by rfl) T.g__law_next T.F__law_next.kp T.b__law_next .nil pass0 (pa_cons (pv 0) (pa_cons (pe_op op_add (pe_callB (call_len_seq) (by rfl) T.z_len (by decide +kernel) (pa_cons (pv 5) pa_nil)) pe_int) pa_nil))) (pa_cons (pe_meth0 (pv 1) T.cl_Desk T.me_Desk_steps (ok_Desk_steps T) (hr.mono (by decide)) T.b_Desk_steps .nil pass0) pa_nil)) (by rfl))
      (pss_cons (ps_set (i := 10) sc_law_none_right.nd rfl (Or.inr rfl) (pe_op op_cat (pe_op op_cat (pe_slice sl_list (pv 5) po_none (po_some (pv 8))) (pe_lst (pa_cons (pe_call (ok_law_odd_step T) (hr.mono (by decide)) (by rfl) T.g__law_odd_step T.F__law_odd_step.kp T.b__law_odd_step .nil pass0 (pa_cons (pv 0) (pa_cons (pv 2) (pa_cons (pe_ix ix_tup (pe_ix ix_list (pv 7) (pv 8) (fun _ _ => rfl)) pe_int (fun _ _ => rfl)) pa_nil)))) pa_nil))) (pe_slice sl_list (pv 5) (po_some (pv 8)) po_none)))
      (pss_cons (ps_if (pt_cmpR (op_neD hr.units) (My.pe_outcomeL (k := 12) T (TL T) TB rfl (.head _) (tl_ok T) (by rfl) (hr.mono (by decide)) (lamS_by (by show lamSB (defScope s_law_none_right) _ = true; decide +kernel)) rfl (fun _ _ _ _ _ => rfl) (fun A outer s H E f c' hr => (pe_meth (pv 1) T.cl_Desk T.me_Desk_do_all (ok_Desk_do_all T) (hr.mono (by decide)) T.b_Desk_do_all .nil (passes_call (takes_of rfl rfl rfl rfl) (fun _ _ _ _ h => h)) (pa_cons (pv 10) pa_nil)))) (pe_tup (pa_cons pe_str (pa_cons pe_non pa_nil))) (nomark _)) (pss_one (ps_ret pe_bl)) pss_nil)
      (pss_cons (ps_set (i := 11) sc_law_none_right.nd rfl (Or.inr rfl) (pe_ix ix_list (pe_lst (pa_cons pe_non (pa_cons pe_str (pa_cons pe_int (pa_cons pe_dnewK (pa_cons (pe_tup (pa_cons pe_str (pa_cons pe_int (pa_cons pe_int pa_nil)))) (pa_cons (pv 1) (pa_cons pe_bl pa_nil)))))))) (pe_call (ok_law_next T) (hr.mono (by decide)) (by rfl) T.g__law_next T.F__law_next.kp T.b__law_next .nil pass0 (pa_cons (pv 0) (pa_cons pe_int pa_nil))) (fun _ _ => rfl)))
      (pss_cons (ps_if (PW.pt (pw_or (pt_cmpR (op_neD hr.units) (My.pe_outcomeL (k := 12) T (TL T) TB rfl (.head _) (tl_ok T) (by rfl) (hr.mono (by decide)) (lamS_by (by show lamSB (defScope s_law_none_right) _ = true; decide +kernel)) rfl (fun _ _ _ _ _ => rfl) (fun A outer s H E f c' hr => (pe_meth (pv 1) T.cl_Desk T.me_Desk_do_all (ok_Desk_do_all T) (hr.mono (by decide)) T.b_Desk_do_all .nil (passes_call (takes_of rfl rfl rfl rfl) (fun _ _ _ _ h => h)) (pa_cons (pv 11) pa_nil)))) (pe_tup (pa_cons pe_str (pa_cons pe_non pa_nil))) (nomark _)) (pw_or1 (pt_cmpR (op_neD hr.units) (pe_meth (pv 1) T.cl_Desk T.me_Desk_do_all (ok_Desk_do_all T) (hr.mono (by decide)) T.b_Desk_do_all .nil passL (pa_cons (pe_tup pa_nil) pa_nil)) (pe_lst pa_nil) (nomark _))))) (pss_one (ps_ret pe_bl)) pss_nil)
      (pss_one (ps_ret (My.pe_callG (ok_law_stands T) hgd (hr.mono (by decide)) (by rfl) T.g__law_stands T.F__law_stands.kp T.b__law_stands .nil pass0 (pa_cons (pv 1) (pa_cons (pv 2) (pa_cons (pv 3) (pa_cons (pv 9) (pa_cons (pe_op op_add (pv 4) pe_int) pa_nil))))))))))))))
, ?_⟩
    refine ⟨.ref m, rfl, _, rfl, _, rfl, m, c, l, k + 8, cv, pr, C, row, st, rfl, B.D, B.dk.fc.O, B.cv, B.pr, B.dk.R, B.dk.St, hrl, fun t S R Pp xs rs ps ss l1 H1 kp D1 ht lS lR lP hS hR hP ok hsl => ?_⟩
    have hnS : ∀ {z : Addr} {o : HO}, H z = some o → S ≠ z ∧ R ≠ z ∧ Pp ≠ z := fun h => ⟨(ne_of_none h hS).symm, (ne_of_none h hR).symm, (ne_of_none h hP).symm⟩
    obtain ⟨ds0, hd0, _⟩ := B.dk.dl
    obtain ⟨us0, hu0, _⟩ := B.dk.ul
    have i1 := J.draw kp B.D i
    have B1 := B.draw kp D1
    have nd := hnS hd0
    have nu := hnS hu0
    have Jo := J
    have J := (J.add (S := S) (xs := xs) (ds := ss.map Stp.dat) nd.1 nu.1).add (S := Pp) (xs := ps) (ds := prs st row ss) nd.2.2 nu.2.2
    have i1 : (I l1 H1 ∧ Ll K H1 m c l1 S xs (ss.map Stp.dat)) ∧ Ll K H1 m c l1 Pp ps (prs st row ss) := ⟨⟨i1, lS⟩, lP⟩
    have lxs : xs.length = ss.length := by rw [dpAll_len lS.da, List.length_map]
    have lps : ps.length = ss.length + 1 := by rw [dpAll_len lP.da, prs_len]
    clear hnS hd0 hu0 i B D1 kp lR hS hR hP
    refine ⟨t, _, rfl, ht, rfl, _, _, rfl, _, _, rfl, _, _, rfl, rfl, ?_⟩
    refine ⟨_, rfl, _, rfl, S, _, rfl, .inl (SqL.of lS.h), _, _, rfl, rfl, ?_⟩
    rw [lxs]
    refine ⟨m, c, l1, k + 7, ((ss.length : Nat) : Int) + 1, rfl, by omega, by omega, B1.D, fun r l2 H2 p0 p1 kp D2 => ?_⟩
    have i2 := J.draw kp B1.D i1
    have B2 := B1.draw kp D2
    clear i1 B1 kp lS lP ht
    obtain ⟨at', rfl⟩ := Int.eq_ofNat_of_zero_le p0
    have hat : at' ≤ ss.length := by omega
    obtain ⟨dx, r0, x0, hp, hr0, hx0⟩ := B2.dk.ob
    obtain ⟨ds, hd, hds⟩ := B2.dk.dl
    refine ⟨_, rfl, p, dx, _, rfl, hp, rfl, p, dx, d, _, _, _, _, _, _, ds, rfl, hp, hd, hds, by have := dpAll_len hds; rw [List.length_map] at this; omega, fun L zs H3 s3 hL hL3 hzs => ?_⟩
    have B3 := B2.same s3
    have i3 := J.same s3 i2
    have J := J.add (S := L) (xs := zs) (ds := dn.map fun y => y.1.dat) (ne_of_none hd hL).symm (ne_of_none B2.dk.ul.choose_spec.1 hL).symm
    have i3 := (show _ ∧ _ from ⟨i3, (⟨hL3, hzs, noLs_all fun e he => by obtain ⟨q, _, rfl⟩ := List.mem_map.mp he; exact noL_stp _, NQ.new B2.D hL⟩ : Ll K H3 m c l2 L zs (dn.map fun y => y.1.dat))⟩)
    clear i2 B2 hp hd hds hL hL3 hzs s3
    refine ⟨_, _, rfl, ?_⟩
    obtain ⟨⟨⟨i3a, lS⟩, lP⟩, lL⟩ := i3
    refine ⟨_, rfl, _, rfl, _, rfl, S, xs, rfl, SqL.of lS.h, fun L1 hL1 => ?_⟩
    rw [cut_take (by omega)]
    have s4 := same_new (o := .lst (xs.take at')) hL1
    have h4 : (upd H3 L1 (.lst (xs.take at'))) L1 = some (.lst (xs.take at')) := upd_same
    have lT : Ll K (upd H3 L1 (.lst (xs.take at'))) m c l2 L1 (xs.take at') ((ss.take at').map Stp.dat) := ⟨h4, by rw [List.map_take]; exact dpAll_take _ (dpAll_same s4 _ _ lS.da), noLs_all fun e he => by obtain ⟨q, _, rfl⟩ := List.mem_map.mp he; exact noL_stp _, NQ.new B3.D hL1⟩
    have J4 := J.add (S := L1) (xs := xs.take at') (ds := (ss.take at').map Stp.dat) (ne_of_none B3.dk.dl.choose_spec.1 hL1).symm (ne_of_none B3.dk.ul.choose_spec.1 hL1).symm
    have B4 := B3.same s4
    have i4 := (show _ ∧ _ from ⟨J.same s4 (show _ ∧ _ from ⟨⟨⟨i3a, lS⟩, lP⟩, lL⟩), lT⟩)
    generalize upd H3 L1 (.lst (xs.take at')) = H4 at s4 h4 lT B4 i4
    have lS := lS.same s4
    have lP := lP.same s4
    clear s4 hL1 B3 i3a lL
    obtain ⟨pv, hpv, hpd⟩ := dpAll_get' lP.da (prs_get ss st row at' hat)
    obtain ⟨pa, pxs, rfl, hpa, hpd⟩ := dp_tup hpd
    obtain ⟨q1, q2, rfl, hq1, hq2⟩ := dpAll2 hpd
    have hRS := stps_end (C := C) (row := row) (st := st) (stpsOk_take at' ok) B4.dk.R B4.dk.St
    have hle := endR_le56 (stpsOk_take at' ok)
    rw [List.length_take] at hle
    refine ⟨_, rfl, _, rfl, _, rfl, _, rfl, Pp, _, _, _, rfl, rfl, SqL.of lP.h, atI_nat hpv, pa, _, 1, _, rfl, rfl, hpa, atI_nat (j := 1) rfl, m, c, l2, k + 6, cv, q2, C, endR row (ss.take at'), rfl, B4.D, B4.dk.fc.O, B4.cv, hq2, by omega, fun v l5 H5 kp D5 hb => ?_⟩
    have i5 := J4.draw kp B4.D i4
    have B5 := B4.draw kp D5
    clear i4 B4 kp lS lP lT hpa hpd hq1 hq2 hpv h4
    obtain ⟨⟨⟨⟨i5a, lS⟩, lP⟩, lL⟩, lT⟩ := i5
    refine ⟨by show 1 ≤ sizeLine; decide, fun O5 h_O5 => ?_⟩
    have s_O5 := same_new (o := .lst [v]) h_O5
    have l_O5 : (upd H5 O5 (.lst [v])) O5 = some (.lst [v]) := upd_same
    generalize upd H5 O5 (.lst [v]) = H6 at s_O5 l_O5
    clear h_O5
    have hb := hb.same s_O5
    have lS6 := lS.same s_O5
    have lT6 := lT.same s_O5
    refine ⟨L1, O5, _, _, rfl, rfl, lT6.h, l_O5, sz_line (by show (xs.take at').length + 1 ≤ _; rw [List.length_take]; omega), fun L2 hL2 => ?_⟩
    have s7 := same_new (o := .lst (xs.take at' ++ [v])) hL2
    have h7 : (upd H6 L2 (.lst (xs.take at' ++ [v]))) L2 = some (.lst (xs.take at' ++ [v])) := upd_same
    have hb := hb.same s7
    have lS7 := lS6.same s7
    have lT7 := lT6.same s7
    have s57 := s_O5.trans s7
    generalize upd H6 L2 (.lst (xs.take at' ++ [v])) = H7 at s7 h7 hb lS7 lT7 s57
    refine ⟨_, rfl, _, rfl, _, rfl, S, xs, rfl, SqL.of lS7.h, fun L3 hL3 => ?_⟩
    rw [cut_drop (by omega)]
    have s8 := same_new (o := .lst (xs.drop at')) hL3
    have h8 : (upd H7 L3 (.lst (xs.drop at'))) L3 = some (.lst (xs.drop at')) := upd_same
    have hb := hb.same s8
    have lT8 := lT7.same s8
    have h78 := s8 _ _ h7
    have s58 := s57.trans s8
    generalize upd H7 L3 (.lst (xs.drop at')) = H8 at s8 h8 hb lT8 s58 h78
    refine ⟨L2, L3, _, _, rfl, rfl, h78, h8, sz_line (by rw [List.length_append, List.length_take, List.length_drop]; show _ + 1 + _ ≤ _; omega), fun Bd hBd => ?_⟩
    rw [List.append_assoc]
    have s9 := same_new (o := .lst (xs.take at' ++ ([v] ++ xs.drop at'))) hBd
    have h9 : (upd H8 Bd (.lst (xs.take at' ++ ([v] ++ xs.drop at')))) Bd = some (.lst (xs.take at' ++ ([v] ++ xs.drop at'))) := upd_same
    have hb := hb.same s9
    have lT9 := lT8.same s9
    have s59 := s58.trans s9
    generalize upd H8 Bd (.lst (xs.take at' ++ ([v] ++ xs.drop at'))) = H9 at s9 h9 hb lT9 s59
    have B9 := B5.same s59
    have i9 := J.same s59 (show _ ∧ _ from ⟨⟨⟨i5a, lS⟩, lP⟩, lL⟩)
    clear s57 s58 s59 s7 s8 s9 s_O5 l_O5 h7 h78 h8 hL2 hL3 hBd lS6 lS7 lT6 lT7 lT8 B5 J4 lS lP lL lT i5a
    -- what cannot be done among them
    refine ⟨B9.Tb, fun J1 e1 t1 J2 s2 Q2 _ => ?_⟩
    have hb := (hb.exI (exI_of e1)).same s2
    have B := (B9.ext e1 t1).same s2
    have i := J.same s2 (J.ext e1 i9)
    have lT := (lT9.ext e1).same s2
    have hBd := s2 _ _ (e1 _ _ h9 nofun)
    clear B9 i9 lT9 h9 e1 t1 s2
    obtain ⟨dx, r0, x0, hp, _⟩ := B.dk.ob
    refine ⟨_, rfl, p, dx, _, rfl, hp, rfl, _, rfl, ?_⟩
    dsimp only [tNil]
    refine all_bad (ss := ss.take at') B.dk (.inl hBd) lT.da (stpsOk_take at' ok) (by rw [List.length_take]; omega) hb fun J4 F dk4 => place_E fun z J5 s5 hz => ?_
    obtain ⟨B, i⟩ := B.tick J i F dk4
    have B := B.same s5
    have i := J.same s5 i
    refine ⟨by show 2 ≤ sizeLine; decide, fun e h_e => ?_⟩
    have s_e := same_new (o := .tup [V.str "place", V.non]) h_e
    have t_e : SqT K (upd J5 e (.tup [V.str "place", V.non])) e [V.str "place", V.non] := upd_tup
    generalize upd J5 e (.tup [V.str "place", V.non]) = J6 at s_e t_e
    clear h_e
    refine neD_same (dp_same s_e _ _ hz) (.tup t_e (.cons (.str _) (.cons .non .nil))) (by decide +kernel) ?_
    have B := B.same s_e
    have i := J.same s_e i
    clear hz s_e t_e s5 F dk4 hp hb lT hBd
    refine fun a ha => ?_
    have s1 := same_new (o := .dK []) ha
    have ha' : (upd J6 a (.dK [])) a = some (.dK []) := upd_same
    have nqa : NQ m c l5 a := NQ.new B.D ha
    have na : a ≠ p ∧ a ≠ d ∧ a ≠ u := ⟨(ne_of_none B.dk.ob.choose_spec.choose_spec.choose_spec.1 ha).symm, (ne_of_none B.dk.dl.choose_spec.1 ha).symm, (ne_of_none B.dk.ul.choose_spec.1 ha).symm⟩
    have B := B.same s1
    have i := J.same s1 i
    generalize upd J6 a (.dK []) = J7 at s1 ha' B i
    clear s1
    refine ⟨by show 3 ≤ sizeLine; decide, fun t1 h_t1 => ?_⟩
    have s_t1 := same_new (o := .tup [V.str "put", V.int 0, V.int 0]) h_t1
    have t_t1 : SqT K (upd J7 t1 (.tup [V.str "put", V.int 0, V.int 0])) t1 [V.str "put", V.int 0, V.int 0] := upd_tup
    generalize upd J7 t1 (.tup [V.str "put", V.int 0, V.int 0]) = J8 at s_t1 t_t1
    clear h_t1
    refine ⟨_, rfl, by show 7 ≤ sizeLine; decide, fun O7 hO7 => ?_⟩
    have B8 := B.same s_t1
    have i8 := J.same s_t1 i
    have oW := own_mk (xs := [V.non, .str "put", .int 0, .ref a, .ref t1, .ref p, .bl true]) B8.D hO7
    have s9 := same_new (o := .lst [V.non, .str "put", .int 0, .ref a, .ref t1, .ref p, .bl true]) hO7
    have ha9 := s9 _ _ (s_t1 _ _ ha')
    have t9 := same_tup s9 t_t1
    have B9 := B8.same s9
    have i9 := J.same s9 i8
    generalize upd J8 O7 (.lst [V.non, .str "put", .int 0, .ref a, .ref t1, .ref p, .bl true]) = J9 at oW ha9 t9 B9 i9 s9
    clear s9 B8 i8 B i s_t1 t_t1 ha' hO7 ha
    refine ⟨_, rfl, m, c, l5, k + 5, 7, rfl, by decide, by decide, B9.D, fun r l6 HA p0 p1 kp DA => ?_⟩
    have i := J.draw kp B9.D i9
    have B := B9.draw kp DA
    have haA := kp.st _ _ ha9 nqa.1 nqa.2.2
    have tA := (keep_draw kp B9.D).tup t9
    obtain ⟨v, hv, hat2⟩ := pick_v (xs := [V.non, .str "put", .int 0, .ref a, .ref t1, .ref p, .bl true]) p0 p1
    have ns : NoSq K HA p d u v := by
      simp only [List.mem_cons, List.not_mem_nil, or_false] at hv
      rcases hv with e | e | e | e | e | e | e <;> subst e
      · exact .inl rfl
      · exact .inr (.inl rfl)
      · exact .inr (.inr (.inl rfl))
      · exact .inr (.inr (.inr (.inl ⟨a, rfl, haA, na⟩)))
      · exact .inr (.inr (.inr (.inr (.inl ⟨t1, rfl, tA⟩))))
      · exact .inr (.inr (.inr (.inr (.inr (.inl rfl)))))
      · exact .inr (.inr (.inr (.inr (.inr (.inr rfl)))))
    refine ⟨O7, _, _, _, rfl, rfl, SqL.of (oW.kp kp).st, hat2, ?_⟩
    clear oW hat2 hv haA tA t9 ha9 B9 i9 kp DA nqa na
    refine ⟨B.Tb, fun J1 e1 t1 J2 s2 Q2 _ => ?_⟩
    have ns := (ns.imp (H' := J1) (fun a h => e1 _ _ h nofun) (fun a xs h => ext_tup e1 h)).imp (H' := J2) (fun a h => s2 _ _ h) (fun a xs h => same_tup s2 h)
    have B := (B.ext e1 t1).same s2
    have i := J.same s2 (J.ext e1 i)
    obtain ⟨dx, r0, x0, hp, _⟩ := B.dk.ob
    refine ⟨_, rfl, p, dx, _, rfl, hp, rfl, _, rfl, ?_⟩
    dsimp only [tNil]
    refine none_all ns B.dk (by omega) fun J4 F dk4 => place_E fun z J5 s5 hz => ?_
    obtain ⟨B, i⟩ := B.tick J i F dk4
    have B := B.same s5
    have i := J.same s5 i
    refine ⟨by show 2 ≤ sizeLine; decide, fun e h_e => ?_⟩
    have s_e := same_new (o := .tup [V.str "place", V.non]) h_e
    have t_e : SqT K (upd J5 e (.tup [V.str "place", V.non])) e [V.str "place", V.non] := upd_tup
    generalize upd J5 e (.tup [V.str "place", V.non]) = J6 at s_e t_e
    clear h_e
    refine neD_same (dp_same s_e _ _ hz) (.tup t_e (.cons (.str _) (.cons .non .nil))) (by decide +kernel) ?_
    have B := B.same s_e
    have i := J.same s_e i
    clear hz s_e t_e s5 F dk4 hp ns e1 s2
    obtain ⟨dx, r0, x0, hp, _⟩ := B.dk.ob
    refine ⟨_, rfl, p, dx, _, rfl, hp, rfl, ?_⟩
    refine ⟨by show 0 ≤ sizeLine; decide, fun e h_e => ?_⟩
    have s_e := same_new (o := .tup []) h_e
    have t_e : SqT K (upd J6 e (.tup [])) e [] := upd_tup
    generalize upd J6 e (.tup []) = J7 at s_e t_e
    clear h_e
    have B := B.same s_e
    have i := J.same s_e i
    dsimp only [tNil]
    refine all_nil B.dk t_e (by omega) fun R2 H8 F hR2 dk4 => ?_
    obtain ⟨B, i⟩ := B.tick J i F dk4
    refine ⟨by show 0 ≤ sizeLine; decide, fun e2 h_e2 => ?_⟩
    have s_e2 := same_new (o := .lst []) h_e2
    have l_e2 : (upd H8 e2 (.lst [])) e2 = some (.lst []) := upd_same
    generalize upd H8 e2 (.lst []) = H9 at s_e2 l_e2
    clear h_e2
    have B := B.same s_e2
    have i := J.same s_e2 i
    refine neD_same (d := .list []) (.lst (SqL.of (s_e2 _ _ hR2)) .nil) (.lst (SqL.of l_e2) .nil) (by decide +kernel) ?_
    clear s_e2 l_e2 hR2 F dk4 hp s_e t_e
    obtain ⟨⟨⟨ib, lS⟩, lP⟩, lL⟩ := i
    refine ⟨_, rfl, _, rfl, _, rfl, _, rfl, _, rfl, _, _, rfl, rfl, ?_⟩
    dsimp only [tNil]
    refine ⟨p, f, d, u, L, cv, pr, C, row0, row, st0, st, dn, un, n + 3, zs, rfl, B.dk, B.cv, B.pr, lL.h, lL.da, by omega, hdl, by omega, sm, fun HZ sZ => ?_⟩
    exact q _ _ ((B.same sZ).less (by omega)) (Jo.same sZ ib)
end
end My

set_option pp.maxSteps 700
namespace My
open PySem PySem.Spec PyProof.Rows L2 LamX
theorem ne_same2 {x : Str} {H : Hp} {A B : Hp → Prop} (q : B H) : rNe (.str x) (.str x) H fun v H' => ∃ c, v = .bl c ∧ if c = true then A H' else B H' := by
  refine ⟨rfl, _, rfl, ?_⟩
  rw [decide_eq_true rfl]
  exact iteF q
theorem sh_part {xs : List Int} (h : ∀ z ∈ xs, z.natAbs ≤ 40000) (hl : xs.length ≤ 100) : Sh 1 400000 (intsD xs) := (sh_ints fun z hz => by have := h z hz; omega).mono (by decide) (by omega)
theorem sh_rep {xs ys : List Int} (hx : ∀ z ∈ xs, z.natAbs ≤ 40000) (hy : ∀ z ∈ ys, z.natAbs ≤ 40000) (lx : xs.length ≤ 100) (ly : ys.length ≤ 100) : Sh 2 1300000 (repD xs ys) := by
  obtain ⟨h1, h2⟩ := rep_le xs ys
  have p1 : Sh 1 400000 (intsD ((xs.drop (repF xs ys)).take (xs.length - repE xs ys - repF xs ys))) := sh_part (fun z hz => hx z (List.mem_of_mem_drop (List.mem_of_mem_take hz))) (by rw [List.length_take, List.length_drop]; omega)
  have p2 : Sh 1 400000 (intsD ((ys.drop (repF xs ys)).take (ys.length - repE xs ys - repF xs ys))) := sh_part (fun z hz => hy z (List.mem_of_mem_drop (List.mem_of_mem_take hz))) (by rw [List.length_take, List.length_drop]; omega)
  exact (sh_t (k := 1) (n := 400000) (ds := [.int (repF xs ys : Nat), intsD ((xs.drop (repF xs ys)).take (xs.length - repE xs ys - repF xs ys)), intsD ((ys.drop (repF xs ys)).take (ys.length - repE xs ys - repF xs ys))]) (Nat.le_refl 3) (all1 ((sh_int (by omega)).mono (by decide) (by decide)) (all1 p1 (all1 p2 all0)))).mono (Nat.le_refl _) (by decide)
theorem sh_lev2 {C : Cod} (O : C.Ok) (st : Int × Int) (row : List Nat) : ∀ z ∈ C.lev st row, z.natAbs ≤ 40000 := fun z hz => by
  have := lev_in O row st z hz
  have h1 := O.l1
  have h2 := O.h2
  omega
theorem stps_sm {C : Cod} (O : C.Ok) : ∀ {ss : List Stp} {row : List Nat} {st : Int × Int}, row.length ≤ 2000 → stpsOk C row ss → ∀ y ∈ edl st row ss, y.1.Sm
  | [], _, _, _, _, y, hy => by cases hy
  | s :: ss, row, st, hl, h, y, hy => by
    rcases List.mem_cons.mp hy with e | hy
    · rw [e]
      exact stp_sm O h.1 hl
    · exact stps_sm O h.2.1 h.2.2 y hy
theorem edl_dat (st : Int × Int) (row : List Nat) (ss : List Stp) : (edl st row ss).map (fun y => y.1.dat) = ss.map Stp.dat := by
  rw [← edl_fst st row ss, List.map_map]
  rw [edl_fst]
  rfl
theorem sh_rpl {C : Cod} (O : C.Ok) : ∀ {ss : List Stp} {st : Int × Int} {row : List Nat}, stpsOk C row ss → row.length + ss.length ≤ 100 → ∀ d ∈ rpl C st row ss, Sh 2 1300000 d
  | [], _, _, _, _, d, hd => by cases hd
  | s :: ss, st, row, ok, hl, d, hd => by
    have h1 := stp_len ok.1
    have hl : row.length + (ss.length + 1) ≤ 100 := hl
    rcases List.mem_cons.mp hd with e | e
    · rw [e]
      exact sh_rep (sh_lev2 O _ _) (sh_lev2 O _ _) (by rw [lev_len]; omega) (by rw [lev_len]; omega)
    · exact sh_rpl O ok.2.2 (by omega) d e
theorem sh_rpls {C : Cod} (O : C.Ok) {ss : List Stp} {st : Int × Int} {row : List Nat} (ok : stpsOk C row ss) (hl : row.length + ss.length ≤ 100) (h7 : ss.length ≤ 7) : Sh 3 9100100 (.list (rpl C st row ss)) :=
  (sh_list (k := 2) (n := 1300000) (sh_rpl O ok hl)).mono (Nat.le_refl _) (by rw [rpl_len]; omega)
theorem edl_app : ∀ (ss ts : List Stp) (st : Int × Int) (row : List Nat), edl st row (ss ++ ts) = edl st row ss ++ edl (endS st ss) (endR row ss) ts
  | [], _, _, _ => rfl
  | s :: ss, ts, st, row => congrArg (_ :: ·) (edl_app ss ts (s.st st) (s.row row))
theorem endR_app : ∀ (ss ts : List Stp) (row : List Nat), endR row (ss ++ ts) = endR (endR row ss) ts
  | [], _, _ => rfl
  | s :: ss, ts, row => endR_app ss ts (s.row row)
theorem endS_app : ∀ (ss ts : List Stp) (st : Int × Int), endS st (ss ++ ts) = endS (endS st ss) ts
  | [], _, _ => rfl
  | s :: ss, ts, st => endS_app ss ts (s.st st)
theorem stpsOk_app {C : Cod} : ∀ {ss ts : List Stp} {row : List Nat}, stpsOk C row ss → stpsOk C (endR row ss) ts → stpsOk C row (ss ++ ts)
  | [], _, _, _, h => h
  | _ :: _, _, _, h1, h2 => ⟨h1.1, h1.2.1, stpsOk_app h1.2.2 h2⟩
theorem noL_stps (ss : List Stp) : noLs (ss.map Stp.dat) = true := noLs_all fun d hd => by
  obtain ⟨q, _, rfl⟩ := List.mem_map.mp hd
  exact noL_stp _
def tinyK : Cod := { low := -1, high := 1, steps := [1], moves := [(8, 0), (-8, 0)], fade := 0 }
theorem tiny_ok : tinyK.Ok := by constructor <;> decide
theorem tiny_St : tinyK.St (0, 0) := ⟨by decide, by decide, by decide, by decide⟩
def bigZ : List Nat := List.replicate 1999 0
theorem bigZ_len : bigZ.length = 1999 := List.length_replicate ..
theorem bigZ_row : tinyK.Row bigZ := ⟨by rw [bigZ_len]; decide, fun k hk => by
  obtain ⟨_, rfl⟩ := List.mem_replicate.mp hk
  decide⟩
section
variable {P : Program} {w : World} {K : PySem.W.Frag} {mg : Str → Option Value} {base : Heap}
/-- a desk begun with row0, st0, with the steps ss done and us undone -/
abbrev DkC (T : Txt K mg) (H : Hp) (p f d u : Addr) (C : Cod) (row0 : List Nat) (st0 : Int × Int) (ss us : List Stp) (n : Nat) : Prop :=
  DkS T H p f d u C row0 st0 (endR row0 ss) (endS st0 ss) (edl st0 row0 ss) (edl (endS st0 ss) (endR row0 ss) us).reverse n
theorem undo_ok {T : Txt K mg} {H : Hp} {p f d u : Addr} {C : Cod} {row0 : List Nat} {st0 : Int × Int} {ss us : List Stp} {t : Stp} {n : Nat} {Q : VK} {E : XK} (D : DkC T H p f d u C row0 st0 (ss ++ [t]) us n) (ok : stpsOk C row0 (ss ++ [t])) (hR : C.Row row0) (hst : C.St st0) (l1 : ss.length < 80000) (l2 : us.length < 80000)
    (q : ∀ v H', DkF p d u H H' → DkC T H' p f d u C row0 st0 ss (t :: us) (n + 1) → Dp K H' v t.dat → Q v H') : sp_Desk_undo T [.ref p] H Q E := by
  obtain ⟨okA, okB, okC⟩ := stpsOk_snoc.mp ok
  have hRS := stps_end (C := C) (row := row0) (st := st0) okA hR hst
  refine ⟨p, f, d, u, C, row0, _, st0, _, _, _, n, rfl, D, by rw [edl_len, List.length_append]; show ss.length + 1 ≤ _; omega, by rw [List.length_reverse, edl_len]; omega, fun hz => ?_, fun dn' s' e' hz => ?_⟩
  · rw [edl_snoc] at hz
    simp at hz
  · rw [edl_snoc] at hz
    obtain ⟨e1', e2'⟩ := List.append_inj' hz rfl
    injection e2' with e2' _
    injection e2' with e3' e4'
    subst e1' e3' e4'
    rw [endR_snoc, opp_app okB]
    refine ⟨opp_fits okB, Nat.le_trans (edt_oldlen okB) hRS.1.len, hRS.1, by show C.St (t.edt (endR row0 ss) (endS st0 ss)).here; rw [stp_here]; exact hRS.2, fun v H' F D' hv => q v H' F ?_ hv⟩
    rw [show (t.edt (endR row0 ss) (endS st0 ss)).opp.later = endS st0 ss from stp_here, endS_snoc] at D'
    show DkS T H' p f d u C row0 st0 (endR row0 ss) (endS st0 ss) (edl st0 row0 ss) ((t, t.edt (endR row0 ss) (endS st0 ss)) :: edl (t.st (endS st0 ss)) (t.row (endR row0 ss)) us).reverse (n + 1)
    rw [List.reverse_cons]
    exact D'
theorem redo_ok {T : Txt K mg} {H : Hp} {p f d u : Addr} {C : Cod} {row0 : List Nat} {st0 : Int × Int} {ss us : List Stp} {t : Stp} {n : Nat} {Q : VK} {E : XK} (D : DkC T H p f d u C row0 st0 ss (t :: us) n) (ok : stpsOk C row0 ss) (oku : stpsOk C (endR row0 ss) (t :: us)) (hR : C.Row row0) (hst : C.St st0) (l1 : ss.length < 80000) (l2 : us.length < 80000)
    (q : ∀ v H', DkF p d u H H' → DkC T H' p f d u C row0 st0 (ss ++ [t]) us (n + 1) → Dp K H' v t.dat → Q v H') : sp_Desk_redo T [.ref p] H Q E := by
  obtain ⟨okB, okC, okD⟩ := oku
  have hRS := stps_end (C := C) (row := row0) (st := st0) ok hR hst
  refine ⟨p, f, d, u, C, row0, _, st0, _, _, _, n, rfl, D, by rw [edl_len]; omega, by rw [List.length_reverse, edl_len]; show us.length + 1 ≤ _; omega, fun hz => ?_, fun dn' s' e' hz => ?_⟩
  · rw [show edl (endS st0 ss) (endR row0 ss) (t :: us) = (t, t.edt (endR row0 ss) (endS st0 ss)) :: edl (t.st (endS st0 ss)) (t.row (endR row0 ss)) us from rfl, List.reverse_cons] at hz
    simp at hz
  · rw [show edl (endS st0 ss) (endR row0 ss) (t :: us) = (t, t.edt (endR row0 ss) (endS st0 ss)) :: edl (t.st (endS st0 ss)) (t.row (endR row0 ss)) us from rfl, List.reverse_cons] at hz
    obtain ⟨e1', e2'⟩ := List.append_inj' hz rfl
    injection e2' with e2' _
    injection e2' with e3' e4'
    subst e1' e3' e4'
    rw [edt_app okB]
    refine ⟨edt_fits okB, Nat.le_trans edt_new (by decide), ⟨okC, stp_lt okB hRS.1.lt⟩, by rw [stp_later]; exact stp_St (row := endR row0 ss) okB hRS.2, fun v H' F D' hv => q v H' F ?_ hv⟩
    rw [stp_later] at D'
    show DkS T H' p f d u C row0 st0 (endR row0 (ss ++ [t])) (endS st0 (ss ++ [t])) (edl st0 row0 (ss ++ [t])) (edl (endS st0 (ss ++ [t])) (endR row0 (ss ++ [t])) us).reverse (n + 1)
    rw [endR_snoc, endS_snoc, edl_snoc]
    exact D'
theorem all_good {T : Txt K mg} {H : Hp} {p f d u L : Addr} {xs : List V} {ss : List Stp} {C : Cod} {row0 row : List Nat} {st0 st : Int × Int} {dn un : List (Stp × Edt)} {n : Nat} {Q : VK} {E : XK} (dk : DkS T H p f d u C row0 st0 row st dn un n) (hL : H L = some (.lst xs) ∨ SqT K H L xs) (hxs : DpAll K H xs (ss.map Stp.dat)) (ok : stpsOk C row ss) (hm : dn.length + ss.length ≤ 100000)
    (q : ∀ R reps u' H', DkF p d u H H' → H' R = some (.lst reps) → H R = none → DpAll K H' reps (rpl C st row ss) → (u' = u ∨ H u' = none) → DkS T H' p f d u' C row0 st0 (endR row ss) (endS st ss) (dn ++ edl st row ss) (if ss = [] then un else []) (n + 1) → Q (.ref R) H') : sp_Desk_do_all T [.ref p, .ref L] H Q E :=
  ⟨p, f, d, u, .ref L, C, row0, row, st0, st, dn, un, n, rfl, dk, .inl ⟨L, xs, [], ss, rfl, by rw [List.append_nil]; exact hL, hxs, ok, hm, .inl ⟨rfl, fun R reps u' H' F hR hRn hreps h1 h2 D => q R reps u' H' F hR hRn hreps (by
    by_cases e : ss = []
    · exact .inl (h1 e)
    · exact .inr (h2 e)) D⟩⟩⟩
theorem all_great {T : Txt K mg} {H : Hp} {p f d u L : Addr} {xs yr : List V} {y : V} {ss : List Stp} {C : Cod} {row0 row : List Nat} {st0 st : Int × Int} {dn un : List (Stp × Edt)} {n i k : Nat} {Q : VK} {E : XK} (dk : DkS T H p f d u C row0 st0 row st dn un n) (hL : H L = some (.lst (xs ++ y :: yr)) ∨ SqT K H L (xs ++ y :: yr)) (hxs : DpAll K H xs (ss.map Stp.dat)) (ok : stpsOk C row ss) (hm : dn.length + ss.length ≤ 100000)
    (hy : Dp K H y (Stp.put i k).dat) (oky : (Stp.put i k).Ok C (endR row ss)) (hl : (endR row ss).length = 2000) (q : ∀ H', DkF p d u H H' → DkS T H' p f d u C row0 st0 row st dn un (n + 1) → OneE T.C_TooGreat "most" H' E (.int 2000)) : sp_Desk_do_all T [.ref p, .ref L] H Q E :=
  ⟨p, f, d, u, .ref L, C, row0, row, st0, st, dn, un, n, rfl, dk, .inl ⟨L, xs, y :: yr, ss, rfl, hL, hxs, ok, hm, .inr ⟨y, yr, rfl, .inr ⟨i, k, hy, oky, hl, fun dd H' F D hd => q H' F D dd H' (Same.refl H') hd⟩⟩⟩⟩
/-- another list is changed -/
theorem Fr.lst {T : Txt K mg} {H : Hp} {m c l k p f d u z : Addr} {xs ys : List V} {cv pr : V} {pd : PyData} {C : Cod} {row0 row : List Nat} {st0 st : Int × Int} {dn un : List (Stp × Edt)} {n : Nat} (h : Fr T H m c l k p f d u cv pr pd C row0 st0 row st dn un n) (hz : H z = some (.lst xs)) (nz : NQ m c l z) (nd : z ≠ d) (nu : z ≠ u) : Fr T (upd H z (.lst ys)) m c l k p f d u cv pr pd C row0 st0 row st dn un n := by
  have k := keep_set (o := .lst ys) hz
  exact ⟨h.D.set nz.1 nz.2.1 nz.2.2, tabs_put h.Tb hz, dp_keep k _ _ (noL_cod _) h.cv, dp_keep k _ _ h.np h.pr, h.np, h.dk.lst hz nd.symm nu.symm, h.nd, h.nu⟩
theorem Fr.pr' {T : Txt K mg} {H : Hp} {m c l k p f d u : Addr} {cv pr pr' : V} {pd pd' : PyData} {C : Cod} {row0 row : List Nat} {st0 st : Int × Int} {dn un : List (Stp × Edt)} {n : Nat} (h : Fr T H m c l k p f d u cv pr pd C row0 st0 row st dn un n) (hp : Dp K H pr' pd') (hn : noL pd' = true) : Fr T H m c l k p f d u cv pr' pd' C row0 st0 row st dn un n := ⟨h.D, h.Tb, h.cv, hp, hn, h.dk, h.nd, h.nu⟩
/-- what stands in the law -/
structure Jv (T : Txt K mg) (H : Hp) (m c l k : Addr) (p f d u : Addr) (cv pr : V) (C : Cod) (row : List Nat) (st : Int × Int) (ss : List Stp) (n : Nat) (S : Addr) : Prop where
  B : Fr T H m c l k p f d u cv pr (pairD2 (endS st ss) (endR row ss)) C row st (endR row ss) (endS st ss) (edl st row ss) [] n
  ls : ∃ xs, Ll K H m c l S xs (ss.map Stp.dat)
  ok : stpsOk C row ss
  nS : S ≠ d ∧ S ≠ u
theorem join4 {G : Hp → Int → Prop} {B : Hp → Int → Prop} {M : Prop} (main : (∀ H t, B H t → G H t) → M) (cont : ∀ H t, B H t → G H t) : M := main cont
theorem Jv.less {T : Txt K mg} {H : Hp} {m c l p f d u S : Addr} {k k' : Nat} {cv pr : V} {C : Cod} {row : List Nat} {st : Int × Int} {ss : List Stp} {n : Nat} (h : Jv T H m c l k p f d u cv pr C row st ss n S) (e : k' ≤ k) : Jv T H m c l k' p f d u cv pr C row st ss n S := ⟨h.B.less e, h.ls, h.ok, h.nS⟩
def sp_law (K : PySem.W.Frag) (PS : List Addr) : Sp := fun vs H Q _ => ∃ (a : Addr) (ns : List Int), vs = [.ref a] ∧ SqL K H a (ns.map V.int) ∧ ns.length ≤ 63 ∧ (∀ P ∈ PS, H P = some (.tbl #[])) ∧ ∀ H', Q (.bl true) H'
set_option maxHeartbeats 8000000 in
theorem ok_law (T : Txt K mg) (TB_law_none_right : TabB base mg T.c__law_none_right T.P__law_none_right) (TB : TabB base mg T.c_law T.P_law) :
    FnG P w K mg base 18 T.f_law T.d_law ["script"] (sp_law K [T.P__law_none_right, T.P_law]) := by
  refine okGc T.F_law T.cd_law sc_law (fun vs H Q E h => ?_) (fun A outer s H vs Q E hgd hr h => ?_)
  · obtain ⟨a, ns, rfl, _⟩ := h
    rfl
  · obtain ⟨a, ns, rfl, hS, hl, hP, q⟩ := h
    refine ⟨_,
(pss_cons (ps_set (i := 1) sc_law.nd rfl (Or.inl rfl) (pe_call (ok_law_begun T) (hr.mono (by decide)) (by rfl) T.g__law_begun T.F__law_begun.kp T.b__law_begun .nil pass0 (pa_cons (pv 0) pa_nil)))
      (pss_cons (ps_for PassesOwn.never rfl (pi_range1 (by rfl) T.z_range (pa_cons (pe_op op_add pe_int (pe_callB (call_min2 rfl) (by rfl) T.z_min (by decide +kernel) (pa_cons (pe_callB (call_len_seq) (by rfl) T.z_len (by decide +kernel) (pa_cons (pv 0) pa_nil)) (pa_cons pe_int pa_nil)))) pa_nil)) (pg_name (i := 2) sc_law.nd rfl (Or.inl rfl)) (pss_cons (ps_set (i := 3) sc_law.nd rfl (Or.inl rfl) (pe_call (ok_law_coder T) (hr.mono (by decide)) (by rfl) T.g__law_coder T.F__law_coder.kp T.b__law_coder .nil pass0 (pa_cons (pv 1) (pa_cons (pe_ix ix_list (pe_lst (pa_cons pe_int (pa_cons pe_int (pa_cons pe_int pa_nil)))) (pe_call (ok_law_next T) (hr.mono (by decide)) (by rfl) T.g__law_next T.F__law_next.kp T.b__law_next .nil pass0 (pa_cons (pv 1) (pa_cons pe_int pa_nil))) (fun _ _ => rfl)) (pa_cons pe_int (pa_cons pe_int pa_nil))))))
      (pss_cons (ps_par3 (i := 4) (j := 5) (l := 6) (by rfl) sc_law.nd rfl rfl rfl (by decide) (by decide) (by decide) rfl rfl rfl (pa_cons (pe_tup (pa_cons (pe_call (ok_law_some_state T) (hr.mono (by decide)) (by rfl) T.g__law_some_state T.F__law_some_state.kp T.b__law_some_state .nil pass0 (pa_cons (pv 1) (pa_cons (pv 3) pa_nil))) (pa_cons (pe_call (ok_law_row T) (hr.mono (by decide)) (by rfl) T.g__law_row T.F__law_row.kp T.b__law_row .nil pass0 (pa_cons (pv 1) (pa_cons (pv 3) (pa_cons pe_int pa_nil)))) pa_nil))) (pa_cons (pe_lst pa_nil) (pa_cons pe_int pa_nil))) (by rfl))
      (pss_cons (ps_set (i := 13) sc_law.nd rfl (Or.inr rfl) (pe_make T.mk_Desk (ok_Desk_init T) (hr.mono (by decide)) (by rfl) T.g_Desk T.b_Desk_init .nil pass0 (pa_cons (pe_makeK T.mk_Clip (ok_Clip_init T) (hr.mono (by decide)) (by rfl) T.g_Clip T.k_Clip_init passL (pa_cons (pv 3) (pa_cons (pe_ix ix_tup (pv 4) pe_int (fun _ _ => rfl)) pa_nil)) (pk_cons (pe_ix ix_tup (pv 4) pe_int (fun _ _ => rfl)) pk_nil)) pa_nil)))
      (pss_one (ps_for PassesOwn.never rfl (pi_range1 (by rfl) T.z_range (pa_cons pe_int pa_nil)) (pg_name (i := 7) sc_law.nd rfl (Or.inl rfl)) (pss_cons (ps_asg (pe_call (ok_law_some_steps T) (hr.mono (by decide)) (by rfl) T.g__law_some_steps T.F__law_some_steps.kp T.b__law_some_steps .nil pass0 (pa_cons (pv 1) (pa_cons (pv 3) (pa_cons (pv 4) pa_nil)))) (pg_tup (by rfl) (pgs_cons (pg_name (i := 8) sc_law.nd rfl (Or.inl rfl)) (pgs_cons (pg_name (i := 9) sc_law.nd rfl (Or.inl rfl)) (pgs_cons (pg_name (i := 10) sc_law.nd rfl (Or.inl rfl)) pgs_nil)))))
      (pss_cons (ps_set (i := 11) sc_law.nd rfl (Or.inl rfl) (pe_ix ix_list (pe_lst (pa_cons (pv 8) (pa_cons (pe_callTy call_tuple_of (by rfl) T.z_tuple (by decide +kernel) (pa_cons (pv 8) pa_nil)) pa_nil))) (pe_call (ok_law_next T) (hr.mono (by decide)) (by rfl) T.g__law_next T.F__law_next.kp T.b__law_next .nil pass0 (pa_cons (pv 1) (pa_cons pe_int pa_nil))) (fun _ _ => rfl)))
      (pss_cons (ps_if (pt_cmpR op_ne (pe_callB ((call_repr hgd hr.units)) (by rfl) T.z_repr (by decide +kernel) (pa_cons (pe_meth (pv 13) T.cl_Desk T.me_Desk_do_all (ok_Desk_do_all T) (hr.mono (by decide)) T.b_Desk_do_all .nil passL (pa_cons (pv 11) pa_nil)) pa_nil)) (pe_callB ((call_repr hgd hr.units)) (by rfl) T.z_repr (by decide +kernel) (pa_cons (pv 9) pa_nil)) (nomark _)) (pss_one (ps_ret pe_bl)) pss_nil)
      (pss_cons (ps_par (i := 5) (j := 6) (by rfl) sc_law.nd rfl rfl (by decide) rfl rfl (pa_cons (pe_op op_cat (pv 5) (pv 8)) (pa_cons (pe_op op_add (pv 6) pe_int) pa_nil)) (by rfl))
      (pss_cons (ps_expr (pe_bm PySem.F.plainAttrs_list PySem.F.slot_list_append PySem.F.type_list_append mt_append (pv 8) (pa_cons (pe_tup (pa_cons pe_str (pa_cons pe_int (pa_cons pe_int pa_nil)))) pa_nil)))
      (pss_cons (ps_if (pt_not (pt_val (My.pe_callG (ok_law_stands T) hgd (hr.mono (by decide)) (by rfl) T.g__law_stands T.F__law_stands.kp T.b__law_stands .nil pass0 (pa_cons (pv 13) (pa_cons (pv 3) (pa_cons (pe_ix ix_list (pv 10) (pe_un un_neg pe_int) (fun _ _ => rfl)) (pa_cons (pv 5) (pa_cons (pv 6) pa_nil)))))))) (pss_one (ps_ret pe_bl)) pss_nil)
      (pss_cons (ps_if (pt_not (pt_val (My.pe_callG (ok_law_none_right T TB_law_none_right) hgd (hr.mono (by decide)) (by rfl) T.g__law_none_right T.F__law_none_right.kp T.b__law_none_right .nil pass0 (pa_cons (pv 1) (pa_cons (pv 13) (pa_cons (pv 3) (pa_cons (pe_ix ix_list (pv 10) (pe_un un_neg pe_int) (fun _ _ => rfl)) (pa_cons (pv 6) pa_nil)))))))) (pss_one (ps_ret pe_bl)) pss_nil)
      (pss_cons (ps_par (i := 4) (j := 6) (by rfl) sc_law.nd rfl rfl (by decide) rfl rfl (pa_cons (pe_ix ix_list (pv 10) (pe_un un_neg pe_int) (fun _ _ => rfl)) (pa_cons (pe_op op_add (pv 6) pe_int) pa_nil)) (by rfl))
      (pss_cons (ps_if (pt_cmpR op_gt (pe_callB (call_len_seq) (by rfl) T.z_len (by decide +kernel) (pa_cons (pv 10) pa_nil)) pe_int (nomark _)) (pss_cons (ps_if (pt_cmpR op_ne (pe_callB ((call_repr hgd hr.units)) (by rfl) T.z_repr (by decide +kernel) (pa_cons (pe_meth0 (pv 13) T.cl_Desk T.me_Desk_undo (ok_Desk_undo T) (hr.mono (by decide)) T.b_Desk_undo .nil passL) pa_nil)) (pe_callB ((call_repr hgd hr.units)) (by rfl) T.z_repr (by decide +kernel) (pa_cons (pe_ix ix_list (pv 5) (pe_un un_neg pe_int) (fun _ _ => rfl)) pa_nil)) (nomark _)) (pss_one (ps_ret pe_bl)) pss_nil)
      (pss_cons (ps_if (pt_not (pt_val (My.pe_callG (ok_law_none_right T TB_law_none_right) hgd (hr.mono (by decide)) (by rfl) T.g__law_none_right T.F__law_none_right.kp T.b__law_none_right .nil pass0 (pa_cons (pv 1) (pa_cons (pv 13) (pa_cons (pv 3) (pa_cons (pe_ix ix_list (pv 10) (pe_un un_neg pe_int) (fun _ _ => rfl)) (pa_cons (pe_op op_add (pv 6) pe_int) pa_nil)))))))) (pss_one (ps_ret pe_bl)) pss_nil)
      (pss_cons (ps_if (pt_cmpR op_ne (pe_callB ((call_repr hgd hr.units)) (by rfl) T.z_repr (by decide +kernel) (pa_cons (pe_meth0 (pv 13) T.cl_Desk T.me_Desk_redo (ok_Desk_redo T) (hr.mono (by decide)) T.b_Desk_redo .nil passL) pa_nil)) (pe_callB ((call_repr hgd hr.units)) (by rfl) T.z_repr (by decide +kernel) (pa_cons (pe_ix ix_list (pv 5) (pe_un un_neg pe_int) (fun _ _ => rfl)) pa_nil)) (nomark _)) (pss_one (ps_ret pe_bl)) pss_nil)
      (pss_one (ps_set (i := 6) sc_law.nd rfl (Or.inl rfl) (pe_op op_add (pv 6) pe_int)))))) pss_nil)
      (pss_one (ps_if (pt_not (pt_val (My.pe_callG (ok_law_stands T) hgd (hr.mono (by decide)) (by rfl) T.g__law_stands T.F__law_stands.kp T.b__law_stands .nil pass0 (pa_cons (pv 13) (pa_cons (pv 3) (pa_cons (pv 4) (pa_cons (pv 5) (pa_cons (pv 6) pa_nil)))))))) (pss_one (ps_ret pe_bl)) pss_nil)))))))))))))))))
      (pss_cons (ps_set (i := 13) sc_law.nd rfl (Or.inr rfl) (pe_make T.mk_Desk (ok_Desk_init T) (hr.mono (by decide)) (by rfl) T.g_Desk T.b_Desk_init .nil pass0 (pa_cons (pe_make T.mk_Clip (ok_Clip_init T) (hr.mono (by decide)) (by rfl) T.g_Clip T.b_Clip_init T.ev_Clip_init passL (pa_cons (pe_tup (pa_cons (pe_un un_neg pe_int) (pa_cons pe_int (pa_cons (pe_tup (pa_cons pe_int pa_nil)) (pa_cons (pe_tup (pa_cons (pe_tup (pa_cons pe_int (pa_cons pe_int pa_nil))) (pa_cons (pe_tup (pa_cons (pe_un un_neg pe_int) (pa_cons pe_int pa_nil))) pa_nil))) (pa_cons pe_int pa_nil)))))) (pa_cons (pe_tup (pa_cons pe_int (pa_cons pe_int pa_nil))) pa_nil))) pa_nil)))
      (pss_cons (ps_expr (pe_meth (pv 13) T.cl_Desk T.me_Desk_do (ok_Desk_do T) (hr.mono (by decide)) T.b_Desk_do .nil passL (pa_cons (pe_tup (pa_cons pe_str (pa_cons pe_int (pa_cons pe_int pa_nil)))) pa_nil)))
      (pss_cons (ps_if (PW.pt (pw_or (pt_cmpR (op_neD hr.units) (pe_meth0 (pv 13) T.cl_Desk T.me_Desk_undo (ok_Desk_undo T) (hr.mono (by decide)) T.b_Desk_undo .nil passL) (pe_tup (pa_cons pe_str (pa_cons pe_int (pa_cons pe_int pa_nil)))) (nomark _)) (pw_or1 (pt_cmpR op_ne (pe_callB (call_len_seq) (by rfl) T.z_len (by decide +kernel) (pa_cons (pe_meth (pv 13) T.cl_Desk T.me_Desk_do_all (ok_Desk_do_all T) (hr.mono (by decide)) T.b_Desk_do_all .nil passL (pa_cons (pe_lst (pa_cons (pe_tup (pa_cons pe_str (pa_cons pe_int (pa_cons pe_int pa_nil)))) pa_nil)) pa_nil)) pa_nil)) pe_int (nomark _))))) (pss_one (ps_ret pe_bl)) pss_nil)
      (pss_cons (ps_if (PW.pt (pw_or (pt_cmpR (op_neD hr.units) (My.pe_outcomeL (k := 12) T (TL T) TB rfl (.tail _ (.head _)) (tl_ok T) (by rfl) (hr.mono (by decide)) (lamS_by (by show lamSB (defScope s_law) _ = true; decide +kernel)) rfl (fun _ _ _ _ _ => rfl) (fun A outer s H E f c' hr => (pe_meth0 (pv 13) T.cl_Desk T.me_Desk_redo (ok_Desk_redo T) (hr.mono (by decide)) T.b_Desk_redo .nil (passes_call (takes_of rfl rfl rfl rfl) (fun _ _ _ _ h => h))))) (pe_tup (pa_cons pe_str (pa_cons pe_non pa_nil))) (nomark _)) (pw_or1 (pt_cmpR (op_neD hr.units) (pe_meth0 (pv 13) T.cl_Desk T.me_Desk_steps (ok_Desk_steps T) (hr.mono (by decide)) T.b_Desk_steps .nil pass0) (pe_lst (pa_cons (pe_tup (pa_cons pe_str (pa_cons pe_int (pa_cons pe_int pa_nil)))) pa_nil)) (nomark _))))) (pss_one (ps_ret pe_bl)) pss_nil)
      (pss_cons (ps_set (i := 14) sc_law.nd rfl (Or.inr rfl) (pe_make T.mk_Desk (ok_Desk_init T) (hr.mono (by decide)) (by rfl) T.g_Desk T.b_Desk_init .nil pass0 (pa_cons (pe_make T.mk_Clip (ok_Clip_init T) (hr.mono (by decide)) (by rfl) T.g_Clip T.b_Clip_init T.ev_Clip_init passL (pa_cons (pe_tup (pa_cons (pe_un un_neg pe_int) (pa_cons pe_int (pa_cons (pe_tup (pa_cons pe_int pa_nil)) (pa_cons (pe_tup (pa_cons (pe_tup (pa_cons pe_int (pa_cons pe_int pa_nil))) (pa_cons (pe_tup (pa_cons (pe_un un_neg pe_int) (pa_cons pe_int pa_nil))) pa_nil))) (pa_cons pe_int pa_nil)))))) (pa_cons (pe_op (My.op_repUK (K := K)) (pe_tup (pa_cons pe_int pa_nil)) pe_int) pa_nil))) pa_nil)))
      (pss_cons (ps_if (pt_cmpR (op_neD hr.units) (My.pe_outcomeL (k := 12) T (TL T) TB rfl (.tail _ (.head _)) (tl_ok T) (by rfl) (hr.mono (by decide)) (lamS_by (by show lamSB (defScope s_law) _ = true; decide +kernel)) rfl (fun _ _ _ _ _ => rfl) (fun A outer s H E f c' hr => (pe_meth (pv 14) T.cl_Desk T.me_Desk_do_all (ok_Desk_do_all T) (hr.mono (by decide)) T.b_Desk_do_all .nil (passes_call (takes_of rfl rfl rfl rfl) (fun _ _ _ _ h => h)) (pa_cons (pe_lst (pa_cons (pe_tup (pa_cons pe_str (pa_cons pe_int (pa_cons pe_int pa_nil)))) (pa_cons (pe_tup (pa_cons pe_str (pa_cons pe_int (pa_cons pe_int pa_nil)))) pa_nil))) pa_nil)))) (pe_tup (pa_cons pe_str (pa_cons pe_int pa_nil))) (nomark _)) (pss_one (ps_ret pe_bl)) pss_nil)
      (pss_cons (ps_set (i := 12) sc_law.nd rfl (Or.inl rfl) (pe_meth (pv 14) T.cl_Desk T.me_Desk_do_all (ok_Desk_do_all T) (hr.mono (by decide)) T.b_Desk_do_all .nil passL (pa_cons (pe_tup (pa_cons (pe_tup (pa_cons pe_str (pa_cons pe_int (pa_cons pe_int pa_nil)))) (pa_cons (pe_tup (pa_cons pe_str (pa_cons pe_int (pa_cons pe_int pa_nil)))) pa_nil))) pa_nil)))
      (pss_one (ps_ret (pe_and (pe_cmpR op_eq (pe_callB (My.call_lenI T.at_Clip_len T.fn_Clip_len ((ok_Clip_len T).raw T.b_Clip_len .nil) (hr.mono (by decide)) pass0) (by rfl) T.z_len (by decide +kernel) (pa_cons (pe_meth0 (pv 14) T.cl_Desk T.me_Desk_clip (ok_Desk_clip T) (hr.mono (by decide)) T.b_Desk_clip .nil pass0) pa_nil)) pe_int (nomark _)) (pe_and (pe_cmpR op_eq (pe_callB (call_len_seq) (by rfl) T.z_len (by decide +kernel) (pa_cons (pv 12) pa_nil)) pe_int (nomark _)) (pe_one (pe_cmpR op_eq (pe_meth0 (pv 14) T.cl_Desk T.me_Desk_tries (ok_Desk_tries T) (hr.mono (by decide)) T.b_Desk_tries .nil pass0) pe_int (nomark _))))))))))))))))
, ?_⟩
    refine ⟨.ref a, rfl, a, ns, rfl, hS, hl, fun m c l H1 s1 hm hc hl0 D1 => ?_⟩
    have hS1 := s1.seq hS
    have T1 : Tabs (TL T) H1 := by
      intro q hq
      unfold TL at hq
      simp only [List.mem_cons, List.not_mem_nil, or_false] at hq
      rcases hq with e | e <;> subst e
      · exact TabS.nil (s1 _ _ (hP _ (by simp)))
      · exact TabS.nil (s1 _ _ (hP _ (by simp)))
    refine ⟨_, rfl, a, _, rfl, .inl hS1, ?_⟩
    refine ⟨_, 4, rfl, 2, _, rfl, rfl, _, rfl, ?_, ?_, ?_⟩
    · rw [List.length_map]; split <;> omega
    · rw [List.length_map]; split <;> omega
    have hn : (2 + if (4 : Int) < ((ns.map V.int).length : Int) then 4 else ((ns.map V.int).length : Int)).toNat ≤ 6 := by
      rw [List.length_map]
      split <;> omega
    refine for_range (lo := 0) (n := (2 + if (4 : Int) < ((ns.map V.int).length : Int) then 4 else ((ns.map V.int).length : Int)).toNat)
      (fun i σ H' => ∃ x2 x3 x4 x5 x6 x7 x8 x9 x10 x11 x12 x13 x14 l', σ = [some (.ref a), some (.ref m), x2, x3, x4, x5, x6, x7, x8, x9, x10, x11, x12, x13, x14] ∧ Dr H' m c l' (900000 - 1000 * i) ∧ Tabs (TL T) H') ⟨none, none, none, none, none, none, none, none, none, none, none, none, none, l, rfl, D1, T1⟩ ?_ ?_
    · rintro i σ H2 hi ⟨x2, x3, x4, x5, x6, x7, x8, x9, x10, x11, x12, x13, x14, l2, rfl, D2, T2⟩
      have hi5 : i < 6 := by omega
      have D2 : Dr H2 m c l2 (900000 - 1000 * (i + 1) + 600 + 60 + 1) := D2.less (by omega)
      refine ⟨_, rfl, by show 3 ≤ sizeLine; decide, fun W hW => ?_⟩
      have oW := own_mk (xs := ([2, 9, 300] : List Int).map V.int) D2 hW
      have sW := same_new (o := .lst (([2, 9, 300] : List Int).map V.int)) hW
      refine ⟨_, rfl, m, c, l2, 900000 - 1000 * (i + 1) + 600 + 60, 3, rfl, by decide, by decide, D2.new hW, fun r3 l3 H3 p0 p1 kp3 D3 => ?_⟩
      have T3 := tabs_kp (tabs_same T2 sW) kp3 (D2.new hW)
      obtain ⟨wide, hwide, hat3⟩ := pick_int (xs := [2, 9, 300]) p0 p1
      have hwide : 2 ≤ wide ∧ wide ≤ 300 := by
        simp only [List.mem_cons, List.not_mem_nil, or_false] at hwide
        omega
      refine ⟨W, _, r3, _, rfl, rfl, SqL.of (oW.kp kp3).st, hat3, m, c, l3, 900000 - 1000 * (i + 1) + 600, wide, 3, 4, rfl, ⟨by omega, by omega⟩, by decide, by decide, D3, fun cv C l4 H4 kp4 D4 hsm hcv => ?_⟩
      have T4 := tabs_kp T3 kp4 D3
      have O := hsm.ok (by omega) (by decide) (by decide)
      refine ⟨_, rfl, _, rfl, m, c, l4, 900000 - 1000 * (i + 1) + 598, cv, C, rfl, O, hcv, D4, fun hv st l5 H5 kp5 D5 hst hhv => ?_⟩
      have T5 := tabs_kp T4 kp5 D4
      have hcv5 := dp_keep (keep_draw kp5 D4) _ _ (noL_cod C) hcv
      have D5' : Dr H5 m c l5 (900000 - 1000 * (i + 1) + 580 + 9 + 1) := D5.less (by omega)
      refine ⟨_, rfl, _, rfl, m, c, l5, 900000 - 1000 * (i + 1) + 580, cv, C, 9, rfl, by omega, O, hcv5, D5', fun rv row l6 H6 kp6 D6 hR hlen hrv => ?_⟩
      have T6 := tabs_kp T5 kp6 D5'
      have k6 := keep_draw kp6 D5'
      have hcv6 := dp_keep k6 _ _ (noL_cod C) hcv5
      have hhv6 := dp_keep k6 _ _ (noL_pair st) hhv
      clear oW hat3 hwide hcv hcv5 hhv T2 T3 T4 T5 D2 D3 D4 D5 D5' k6 kp3 kp4 kp5 kp6 sW hsm
      refine ⟨by show 2 ≤ sizeLine; decide, fun pt h_pt => ?_⟩
      have s_pt := same_new (o := .tup [hv, rv]) h_pt
      have t_pt : SqT K (upd H6 pt (.tup [hv, rv])) pt [hv, rv] := upd_tup
      generalize upd H6 pt (.tup [hv, rv]) = H7 at s_pt t_pt
      clear h_pt
      have hpd : Dp K H7 (.ref pt) (pairD2 st row) := .tup t_pt (.cons (dp_same s_pt _ _ hhv6) (.cons (dp_same s_pt _ _ hrv) .nil))
      have D7 := D6.same s_pt
      have T7 := tabs_same T6 s_pt
      have hcv7 := dp_same s_pt _ _ hcv6
      have hhv7 := dp_same s_pt _ _ hhv6
      have hrv7 := dp_same s_pt _ _ hrv
      clear D6 T6 hcv6 hhv6 hrv s_pt
      refine ⟨by show 0 ≤ sizeLine; decide, fun S hSn => ?_⟩
      have s8 := same_new (o := .lst []) hSn
      have lS8 : Ll K (upd H7 S (.lst [])) m c l6 S [] [] := ⟨upd_same, .nil, rfl, NQ.new D7 hSn⟩
      generalize upd H7 S (.lst []) = H8 at s8 lS8
      have D8 := D7.same s8
      have T8 := tabs_same T7 s8
      have hcv8 := dp_same s8 _ _ hcv7
      have hhv8 := dp_same s8 _ _ hhv7
      have hrv8 := dp_same s8 _ _ hrv7
      have hpd8 := dp_same s8 _ _ hpd
      have hpt8 := same_tup s8 t_pt
      clear D7 T7 hcv7 hhv7 hrv7 hpd t_pt s8 hSn
      refine ⟨_, _, _, rfl, ?_⟩
      refine ⟨_, rfl, _, rfl, pt, _, 1, _, rfl, rfl, hpt8, atI_nat (j := 1) rfl, _, rfl, pt, _, 0, _, rfl, rfl, hpt8, atI_nat (j := 0) rfl, rfl, rfl, fun mo dm hm' hdm nem => ?_⟩
      refine clip_mk (T := T) (row := row) hm' hdm O hcv8 hrv8 hR hhv8 hst fun H10 s10 hmo => ⟨rfl, fun p dp hpn hdpn nep => ?_⟩
      refine mk_desk hmo hpn hdpn fun f d u H11 s11 _ hd hu dk => ⟨rfl, ?_⟩
      have s811 := s10.trans s11
      have D10 := D8.same s10
      have lS10 := lS8.same s10
      have I : Jv T H11 m c l6 (900000 - 1000 * (i + 1) + 180 * 3) p f d u cv (.ref pt) C row st [] 0 S :=
        ⟨⟨(D8.same s811).less (by omega), tabs_same T8 s811, dp_same s811 _ _ hcv8, dp_same s811 _ _ hpd8, noL_pr _ _, dk, NQ.new D10 hd, NQ.new D10 hu⟩, ⟨_, lS8.same s811⟩, True.intro, ne_of_none lS10.h hd, ne_of_none lS10.h hu⟩
      clear hm' hdm nem hpn hdpn nep hmo hd hu dk s10 s11 s811 D8 T8 hcv8 hhv8 hrv8 hpd8 hpt8 D10 lS10 lS8
      refine ⟨3, rfl, by decide, by decide, ?_⟩
      refine for_range (lo := 0) (n := 3) (fun j σ H' => ∃ x7 x8 x9 x10 x11 x12 pr u' S' ss n l', σ = [some (.ref a), some (.ref m), some (.int (0 + (i : Nat))), some cv, some pr, some (.ref S'), some (.int ((n : Nat) : Int)), x7, x8, x9, x10, x11, x12, some (.ref p), x14] ∧
        Jv T H' m c l' (900000 - 1000 * (i + 1) + 180 * (3 - j)) p f d u' cv pr C row st ss n S' ∧ ss.length ≤ 7 * j ∧ n ≤ 20 * j) ⟨x7, x8, x9, x10, x11, x12, .ref pt, u, S, [], 0, l6, rfl, I, Nat.le_refl _, Nat.le_refl _⟩ ?_ ?_
      · rintro j σ H' hj ⟨x7, x8, x9, x10, x11, x12, pr, u', S', ss, n, l', rfl, I, hsl, hnl⟩
        have I := I.less (k' := 900000 - 1000 * (i + 1) + 180 * (3 - (j + 1)) + 100 + 22) (by omega)
        have hle := endR_le56 I.ok
        have RS := stps_end (C := C) (row := row) (st := st) I.ok hR hst
        refine ⟨_, rfl, _, rfl, _, rfl, m, c, l', _, cv, pr, C, endR row ss, endS st ss, rfl, I.B.D, O, I.B.cv, I.B.pr, RS.1, RS.2, by omega, fun t S R Pp xs rs ps sn l2 H3 kp D3 ht lS lR lP hS hR0 hP okn hsn => ?_⟩
        refine ⟨t, _, rfl, ht, rfl, _, _, rfl, _, _, rfl, _, _, rfl, rfl, ?_⟩
        obtain ⟨dsv, hdv, _⟩ := I.B.dk.dl
        obtain ⟨usv, huv, _⟩ := I.B.dk.ul
        obtain ⟨xsv, lSd⟩ := I.ls
        have nS : S ≠ d ∧ S ≠ u' ∧ S ≠ S' := ⟨(ne_of_none hdv hS).symm, (ne_of_none huv hS).symm, (ne_of_none lSd.h hS).symm⟩
        have nR : R ≠ d ∧ R ≠ u' := ⟨(ne_of_none hdv hR0).symm, (ne_of_none huv hR0).symm⟩
        have nP : Pp ≠ d ∧ Pp ≠ u' := ⟨(ne_of_none hdv hP).symm, (ne_of_none huv hP).symm⟩
        have nSd := I.nS
        have ok := I.ok
        have lSd := lSd.draw kp I.B.D
        have B := I.B.draw kp D3
        have hSP : S ≠ Pp := by
          intro e
          have h1 := lS.h
          rw [e, lP.h] at h1
          injection h1 with h1
          injection h1 with h1
          have h2 := dpAll_len lS.da
          have h3 := dpAll_len lP.da
          rw [List.length_map] at h2
          rw [prs_len] at h3
          rw [h1] at h3
          omega
        have lxs : xs.length = sn.length := by rw [dpAll_len lS.da, List.length_map]
        have lps : ps.length = sn.length + 1 := by rw [dpAll_len lP.da, prs_len]
        clear I hS hR0 hP hdv huv kp D3 ht
        -- handed
        refine ⟨_, rfl, _, rfl, S, _, rfl, .inl ⟨SqL.of lS.h, fun tt htt => ?_⟩⟩
        have s4 := same_new (o := .tup xs) htt
        have ht4 : SqT K (upd H3 tt (.tup xs)) tt xs := upd_tup
        generalize upd H3 tt (.tup xs) = H4 at s4 ht4
        refine ⟨by show 2 ≤ sizeLine; decide, fun O5 hO5 => ?_⟩
        have oO := own_mk (xs := [V.ref S, .ref tt]) (B.D.same s4) hO5
        have s5 := same_new (o := .lst [V.ref S, .ref tt]) hO5
        have B := B.same (s4.trans s5)
        have lS := lS.same (s4.trans s5)
        have lR := lR.same (s4.trans s5)
        have lP := lP.same (s4.trans s5)
        have lSd := lSd.same (s4.trans s5)
        have ht := same_tup s5 ht4
        generalize upd H4 O5 (.lst [V.ref S, .ref tt]) = H5 at oO B lS lR lP lSd ht s5
        clear s4 s5 ht4 hO5 htt
        have B := B.less (k' := 900000 - 1000 * (i + 1) + 180 * (3 - (j + 1)) + 90 + 1) (by omega)
        refine ⟨_, rfl, m, c, l2, 900000 - 1000 * (i + 1) + 180 * (3 - (j + 1)) + 90, 2, rfl, by decide, by decide, B.D, fun r l6 H6 p0 p1 kp D6 => ?_⟩
        have hgt := (keep_draw kp B.D).tup ht
        have lS := lS.draw kp B.D
        have lR := lR.draw kp B.D
        have lP := lP.draw kp B.D
        have lSd := lSd.draw kp B.D
        have B := B.draw kp D6
        obtain ⟨v, hv, hat⟩ := pick_v (xs := [V.ref S, .ref tt]) p0 p1
        have hv : ∃ hd : Addr, v = .ref hd ∧ (H6 hd = some (.lst xs) ∨ SqT K H6 hd xs) := by
          simp only [List.mem_cons, List.not_mem_nil, or_false] at hv
          rcases hv with e | e
          · exact ⟨S, e, .inl lS.h⟩
          · exact ⟨tt, e, .inr hgt⟩
        obtain ⟨hd, rfl, hhd⟩ := hv
        refine ⟨O5, _, _, _, rfl, rfl, SqL.of (oO.kp kp).st, hat, ?_⟩
        clear hat oO kp ht hgt D6
        obtain ⟨dx, r0, x0, hp, _⟩ := B.dk.ob
        obtain ⟨ds0, hd0, _⟩ := B.dk.dl
        obtain ⟨us0, hu0, _⟩ := B.dk.ul
        refine ⟨_, rfl, p, dx, _, rfl, hp, rfl, _, rfl, ?_⟩
        dsimp only [tNil]
        refine all_good B.dk hhd lS.da okn (by rw [edl_len]; omega) fun R2 reps u2 H7 F hR2 hR2n hreps hu2 dk2 => ?_
        have nu2 : ∀ {z : Addr} {o : HO}, H6 z = some o → z ≠ u' → z ≠ u2 := by
          rcases hu2 with rfl | e
          · exact fun _ h => h
          · exact fun h _ => ne_of_none h e
        have nS2 := nu2 lS.h nS.2.1
        have nP2 := nu2 lP.h nP.2
        clear nu2
        have lS := lS.dkf F hp hd0 hu0 nS.1 nS.2.1
        have lR := lR.dkf F hp hd0 hu0 nR.1 nR.2
        have lP := lP.dkf F hp hd0 hu0 nP.1 nP.2
        have lSd := lSd.dkf F hp hd0 hu0 nSd.1 nSd.2
        have edl2 : edl st row ss ++ edl (endS st ss) (endR row ss) sn = edl st row (ss ++ sn) := (edl_app ss sn st row).symm
        rw [edl2, ← endR_app, ← endS_app, ite_self] at dk2
        have B := B.dkf F hu2 dk2
        have okA := stpsOk_app ok okn
        have shR := sh_rpls (st := endS st ss) O okn (by omega) hsn
        have hR2d : Dp K H7 (.ref R2) (.list (rpl C (endS st ss) (endR row ss) sn)) := .lst (SqL.of hR2) hreps
        refine ⟨_, _, rfl, hR2d, shR.sh, shR.nd, Nat.le_trans shR.dp (by decide), sz_line2 (Nat.le_trans shR.le (by decide)), _, rfl, ?_⟩
        refine ⟨_, _, rfl, (.lst (SqL.of lR.h) lR.da), shR.sh, shR.nd, Nat.le_trans shR.dp (by decide), sz_line2 (Nat.le_trans shR.le (by decide)), ne_same2 ?_⟩
        clear lR hR2d shR hR2 hR2n hreps dk2 hhd
        have lv : xsv.length = ss.length := by rw [dpAll_len lSd.da, List.length_map]
        refine ⟨_, rfl, _, rfl, S', S, _, _, rfl, rfl, lSd.h, lS.h, sz_line (by omega), fun N hN => ?_⟩
        have sN := same_new (o := .lst (xsv ++ xs)) hN
        have nND : N ≠ d ∧ N ≠ u2 ∧ N ≠ S ∧ N ≠ Pp := ⟨(ne_of_none B.dk.dl.choose_spec.1 hN).symm, (ne_of_none B.dk.ul.choose_spec.1 hN).symm, (ne_of_none lS.h hN).symm, (ne_of_none lP.h hN).symm⟩
        have lN : Ll K (upd H7 N (.lst (xsv ++ xs))) m c l6 N (xsv ++ xs) ((ss ++ sn).map Stp.dat) := ⟨upd_same, by rw [List.map_append]; exact dpAll_app (dpAll_same sN _ _ lSd.da) (dpAll_same sN _ _ lS.da), noL_stps _, NQ.new B.D hN⟩
        have B := B.same sN
        have lS := lS.same sN
        have lP := lP.same sN
        generalize upd H7 N (.lst (xsv ++ xs)) = H8 at lN B lS lP
        clear sN hN lSd
        refine ⟨_, rfl, _, _, rfl, rfl, ?_⟩
        refine ⟨_, _, rfl, ?_⟩
        refine ⟨_, rfl, .inl ⟨rfl, _, SqL.of lS.h⟩, ?_⟩
        refine ⟨by show 3 ≤ sizeLine; decide, fun ct h_ct => ?_⟩
        have s_ct := same_new (o := .tup [V.str "cut", V.int 0, V.int 1]) h_ct
        have t_ct : SqT K (upd H8 ct (.tup [V.str "cut", V.int 0, V.int 1])) ct [V.str "cut", V.int 0, V.int 1] := upd_tup
        generalize upd H8 ct (.tup [V.str "cut", V.int 0, V.int 1]) = H9 at s_ct t_ct
        clear h_ct
        have lS := lS.same s_ct
        refine ⟨S, xs, _, rfl, rfl, lS.h, Nat.lt_of_le_of_lt (show xs.length ≤ 100 by omega) (by decide), ?_⟩
        have lN := (lN.same s_ct).lst (o := .lst (xs ++ [V.ref ct])) lS.h nND.2.2.1
        have lP := (lP.same s_ct).lst (o := .lst (xs ++ [V.ref ct])) lS.h hSP.symm
        have B := (B.same s_ct).lst (ys := xs ++ [V.ref ct]) lS.h lS.nq nS.1 nS2
        generalize upd H9 S (.lst (xs ++ [V.ref ct])) = H10 at lN lP B
        clear s_ct t_ct lS
        obtain ⟨ds, eds⟩ := prs_last sn (endS st ss) (endR row ss)
        obtain ⟨ps', pl, hpl, hda, hdv⟩ := dpAll_snoc (by rw [← eds]; exact lP.da)
        rw [← endR_app, ← endS_app] at hdv
        have okA2 := endR_le56 okA
        rw [List.length_append] at okA2
        have sm := stps_sm (st := st) O (by omega) okA
        refine ⟨_, rfl, _, rfl, _, rfl, 1, rfl, Pp, _, -1, _, rfl, rfl, SqL.of lP.h, by rw [hpl]; exact atI_last _ _, _, rfl, _, rfl, ?_⟩
        refine ⟨p, f, d, u2, N, cv, pl, C, row, _, st, _, _, _, n + 1, _, rfl, B.dk, B.cv, hdv, lN.h, by rw [edl_dat]; exact lN.da, by omega, by rw [edl_len, List.length_append]; omega, by omega, sm, fun H11 s11 => ?_⟩
        refine ⟨_, rfl, ?_⟩
        refine iteF ?_
        have lN := lN.same s11
        have lP := lP.same s11
        have B := B.same s11
        have hdv := dp_same s11 _ _ hdv
        clear s11
        have J := ((Inv.none T m c p d u2).add (S := N) (xs := xsv ++ xs) (ds := (ss ++ sn).map Stp.dat) nND.1 nND.2.1).add (S := Pp) (xs := ps) (ds := prs (endS st ss) (endR row ss) sn) nP.1 nP2
        have B := (B.pr' hdv (noL_pr _ _)).less (k' := 900000 - 1000 * (i + 1) + 180 * (3 - (j + 1)) + 60 + 30) (by omega)
        refine ⟨_, rfl, _, rfl, _, rfl, _, rfl, 1, rfl, Pp, _, -1, _, rfl, rfl, SqL.of lP.h, by rw [hpl]; exact atI_last _ _, _, rfl, ?_⟩
        refine ⟨m, c, l6, 900000 - 1000 * (i + 1) + 180 * (3 - (j + 1)) + 60, p, f, d, u2, cv, pl, C, row, st, _, _, _, [], n + 1, _, rfl, B, J, ⟨⟨True.intro, lN⟩, lP⟩, by omega, by rw [edl_len, List.length_append]; omega, by omega, sm, fun l7 H12 B i7 => ?_⟩
        obtain ⟨⟨_, lN⟩, lP⟩ := i7
        refine ⟨_, rfl, ?_⟩
        refine iteF ?_
        refine ⟨_, rfl, 1, rfl, Pp, _, -1, _, rfl, rfl, SqL.of lP.h, by rw [hpl]; exact atI_last _ _, _, rfl, _, _, rfl, rfl, ?_⟩
        obtain ⟨tv, et⟩ : ∃ tv : Int, tv = ((n : Nat) : Int) + 1 + 3 := ⟨_, rfl⟩
        refine ⟨pl, .int tv, by rw [et], ?_⟩
        clear hdv
        apply join4 (B := fun H' t => ∃ l' n', t = ((n' : Nat) : Int) ∧ n' ≤ 20 * (j + 1) ∧ Fr T H' m c l' (900000 - 1000 * (i + 1) + 180 * (3 - (j + 1))) p f d u2 cv pl (pairD2 (endS st (ss ++ sn)) (endR row (ss ++ sn))) C row st (endR row (ss ++ sn)) (endS st (ss ++ sn)) (edl st row (ss ++ sn)) [] n' ∧ Ll K H' m c l' N (xsv ++ xs) ((ss ++ sn).map Stp.dat))
        · intro cont
          refine ⟨_, rfl, Pp, _, rfl, .inl (SqL.of lP.h), _, _, rfl, rfl, _, rfl, ?_⟩
          rw [lps]
          by_cases e0 : sn = []
          rotate_left
          · refine iteTd (by have := List.length_pos_iff.mpr e0; omega) ?_
            obtain ⟨sp, z, esn⟩ : ∃ sp z, sn = sp ++ [z] := ⟨sn.dropLast, sn.getLast e0, (List.dropLast_concat_getLast e0).symm⟩
            have eA : ss ++ sn = (ss ++ sp) ++ [z] := by rw [esn, List.append_assoc]
            obtain ⟨dx, r0, x0, hp, _⟩ := B.dk.ob
            refine ⟨_, rfl, p, dx, _, rfl, hp, rfl, ?_⟩
            have dk : DkC T H12 p f d u2 C row st ((ss ++ sp) ++ [z]) [] (n + 4) := by rw [← eA]; exact B.dk
            dsimp only [tNil]
            refine undo_ok dk (by rw [← eA]; exact okA) hR hst (by have := congrArg List.length eA; rw [List.length_append, List.length_append] at this; have h1 : [z].length = 1 := rfl; omega) (by decide) fun v H13 F dk2 hv => ?_
            have nD := B.nd
            obtain ⟨ds1, hd1, _⟩ := B.dk.dl
            obtain ⟨us1, hu1, _⟩ := B.dk.ul
            have lNo := lN
            have lN := lN.dkf F hp hd1 hu1 nND.1 nND.2.1
            have lP := lP.dkf F hp hd1 hu1 nP.1 nP2
            have B := B.dkf F (.inl rfl) dk2
            obtain ⟨yN, zN, eN, hNa, hNz⟩ := dpAll_snoc (by rw [← show (ss ++ sn).map Stp.dat = (ss ++ sp).map Stp.dat ++ [z.dat] by rw [eA, List.map_append]; rfl]; exact lN.da)
            have shz : Sh 2 12100 z.dat := sh_stp (by
              have hm : (z, z.edt (endR row (ss ++ sp)) (endS st (ss ++ sp))) ∈ edl st row (ss ++ sn) := by
                rw [eA, edl_snoc]
                exact List.mem_append_right _ (List.mem_singleton.mpr rfl)
              exact sm _ hm)
            refine ⟨_, _, rfl, hv, shz.sh, shz.nd, Nat.le_trans shz.dp (by decide), sz_line2 (Nat.le_trans shz.le (by decide)), _, rfl, 1, rfl, N, _, -1, _, rfl, rfl, SqL.of lN.h, by rw [eN]; exact atI_last _ _, ?_⟩
            refine ⟨_, _, rfl, hNz, shz.sh, shz.nd, Nat.le_trans shz.dp (by decide), sz_line2 (Nat.le_trans shz.le (by decide)), ne_same2 ?_⟩
            clear hv F hd1 hu1 hp hNa
            obtain ⟨ds2, eds2⟩ := prs_last sp (endS st ss) (endR row ss)
            have eps : prs (endS st ss) (endR row ss) sn = ds2 ++ [pairD2 (endS st (ss ++ sp)) (endR row (ss ++ sp))] ++ [pairD2 (endS (endS st ss) sn) (endR (endR row ss) sn)] := by
              rw [esn, prs_snoc, eds2, ← endR_app, ← endS_app]
            obtain ⟨ps2, p2, ep2, hp2, hp2'⟩ := dpAll_snoc (by rw [← eps]; exact lP.da)
            obtain ⟨ps3, p3, ep3, hp3, hp3'⟩ := dpAll_snoc hp2
            subst ep3
            have okA' : stpsOk C row (ss ++ sp) := by rw [eA] at okA; exact (stpsOk_snoc.mp okA).1
            have hl2 := endR_le56 okA'
            have hl3 : (ss ++ sp).length ≤ 21 := by
              have := congrArg List.length eA
              rw [List.length_append, List.length_append] at this
              have h1 : [z].length = 1 := rfl
              omega
            have B := (B.pr' hp3' (noL_pr _ _)).less (k' := 900000 - 1000 * (i + 1) + 180 * (3 - (j + 1)) + 20 + 30) (by omega)
            have J := (((Inv.none T m c p d u2).add (S := N) (xs := xsv ++ xs) (ds := (ss ++ sn).map Stp.dat) nND.1 nND.2.1)).add (S := Pp) (xs := ps) (ds := prs (endS st ss) (endR row ss) sn) nP.1 nP2
            refine ⟨_, rfl, _, rfl, _, rfl, _, rfl, 2, rfl, Pp, _, -2, _, rfl, rfl, SqL.of lP.h, by rw [ep2]; exact atI_last2, _, rfl, _, _, rfl, rfl, ?_⟩
            refine ⟨m, c, l7, 900000 - 1000 * (i + 1) + 180 * (3 - (j + 1)) + 20, p, f, d, u2, cv, p3, C, row, st, _, _, _, _, n + 5, _, by rw [et]; rfl, B, J, ⟨⟨True.intro, lN⟩, lP⟩, by omega, by rw [edl_len]; omega, by omega, stps_sm (st := st) O (by omega) okA', fun l8 H14 B i8 => ?_⟩
            obtain ⟨⟨_, lN⟩, lP⟩ := i8
            obtain ⟨ps5, pl5, hpl5, _, hplL⟩ := dpAll_snoc (by rw [← eds]; exact lP.da)
            have epl : pl5 = pl := by
              have := hpl5.symm.trans hpl
              exact List.cons.inj (List.append_inj' this rfl).2 |>.1
            rw [epl] at hplL
            rw [← endR_app, ← endS_app] at hplL
            refine ⟨_, rfl, ?_⟩
            refine iteF ?_
            have lNz : DpAll K H14 (xsv ++ xs) ((ss ++ sp).map Stp.dat ++ [z.dat]) := by rw [← show (ss ++ sn).map Stp.dat = (ss ++ sp).map Stp.dat ++ [z.dat] by rw [eA, List.map_append]; rfl]; exact lN.da
            obtain ⟨yN, zN, eN, hNa, hNz⟩ := dpAll_snoc lNz
            obtain ⟨dx, r0, x0, hp, _⟩ := B.dk.ob
            obtain ⟨ds1, hd1, _⟩ := B.dk.dl
            obtain ⟨us1, hu1, _⟩ := B.dk.ul
            refine ⟨_, rfl, p, dx, _, rfl, hp, rfl, ?_⟩
            have dk : DkC T H14 p f d u2 C row st (ss ++ sp) [z] (n + 8) := B.dk
            dsimp only [tNil]
            refine redo_ok dk okA' (by have := (stpsOk_snoc.mp (show stpsOk C row ((ss ++ sp) ++ [z]) by rw [← eA]; exact okA)).2; exact ⟨this.1, this.2, True.intro⟩) hR hst (by omega) (by decide) fun v H15 F dk3 hv => ?_
            have kF := F.keep hp hd1 hu1
            have lN := lN.dkf F hp hd1 hu1 nND.1 nND.2.1
            rw [← eA] at dk3
            have B := B.dkf F (.inl rfl) dk3
            have hplL := dp_keep kF _ _ (noL_pr _ _) hplL
            have hNz := dp_keep kF _ _ (noL_stp _) hNz
            refine ⟨_, _, rfl, hv, shz.sh, shz.nd, Nat.le_trans shz.dp (by decide), sz_line2 (Nat.le_trans shz.le (by decide)), _, rfl, 1, rfl, N, _, -1, _, rfl, rfl, SqL.of lN.h, by rw [eN]; exact atI_last _ _, ?_⟩
            refine ⟨_, _, rfl, hNz, shz.sh, shz.nd, Nat.le_trans shz.dp (by decide), sz_line2 (Nat.le_trans shz.le (by decide)), ne_same2 ?_⟩
            clear hv F hd1 hu1 hp hNa dk3
            refine ⟨_, rfl, _, _, rfl, rfl, ?_⟩
            obtain ⟨tz, et'⟩ : ∃ tz : Int, tz = tv + 5 := ⟨_, rfl⟩
            show gName 6 (V.int (tv + 5)) _ _ _
            rw [← et']
            have B := (B.pr' hplL (noL_pr _ _)).less (k' := 900000 - 1000 * (i + 1) + 180 * (3 - (j + 1))) (by omega)
            exact cont H15 tz ⟨l8, n + 9, by omega, by omega, B, lN⟩
          · refine iteFd (by rw [e0]; decide) ?_
            exact cont H12 tv ⟨l7, n + 1 + 3, by omega, by omega, B.less (by omega), lN⟩
        · rintro HB tz ⟨lz, nz, rfl, hnz, B, lN⟩
          have hlA : (ss ++ sn).length ≤ 7 * (j + 1) := by rw [List.length_append]; omega
          refine ⟨_, rfl, _, rfl, _, rfl, _, rfl, _, rfl, ?_⟩
          refine ⟨p, f, d, u2, N, cv, pl, C, row, _, st, _, _, _, nz, _, rfl, B.dk, B.cv, B.pr, lN.h, by rw [edl_dat]; exact lN.da, by omega, by rw [edl_len]; omega, by omega, sm, fun HC sC => ?_⟩
          refine ⟨_, rfl, ?_⟩
          refine iteF ?_
          exact ⟨_, _, _, _, _, _, pl, u2, N, ss ++ sn, nz, lz, rfl, ⟨B.same sC, ⟨_, lN.same sC⟩, okA, nND.1, nND.2.1⟩, hlA, hnz⟩
      rintro σ H3 ⟨x7, x8, x9, x10, x11, x12, pr, u', S', ss, n, l', rfl, I, _, _⟩
      exact ⟨_, _, _, _, _, _, _, _, _, _, _, _, _, l', rfl, I.B.D.less (by omega), I.B.Tb⟩
    rintro σ H2 ⟨x2, x3, x4, x5, x6, x7, x8, x9, x10, x11, x12, x13, x14, l2, rfl, _, T2⟩
    -- a desk of two codes
    refine ⟨_, rfl, ?_⟩
    refine ⟨by show 1 ≤ sizeLine; decide, fun cs h_cs => ?_⟩
    have s_cs := same_new (o := .tup [V.int 1]) h_cs
    have t_cs : SqT K (upd H2 cs (.tup [V.int 1])) cs [V.int 1] := upd_tup
    generalize upd H2 cs (.tup [V.int 1]) = cH1 at s_cs t_cs
    clear h_cs
    refine ⟨by show 2 ≤ sizeLine; decide, fun cm0 h_cm0 => ?_⟩
    have s_cm0 := same_new (o := .tup [V.int 8, V.int 0]) h_cm0
    have t_cm0 : SqT K (upd cH1 cm0 (.tup [V.int 8, V.int 0])) cm0 [V.int 8, V.int 0] := upd_tup
    generalize upd cH1 cm0 (.tup [V.int 8, V.int 0]) = cH2 at s_cm0 t_cm0
    clear h_cm0
    refine ⟨_, rfl, ?_⟩
    refine ⟨by show 2 ≤ sizeLine; decide, fun cm1 h_cm1 => ?_⟩
    have s_cm1 := same_new (o := .tup [V.int (-8), V.int 0]) h_cm1
    have t_cm1 : SqT K (upd cH2 cm1 (.tup [V.int (-8), V.int 0])) cm1 [V.int (-8), V.int 0] := upd_tup
    generalize upd cH2 cm1 (.tup [V.int (-8), V.int 0]) = cH3 at s_cm1 t_cm1
    clear h_cm1
    refine ⟨by show 2 ≤ sizeLine; decide, fun cm h_cm => ?_⟩
    have s_cm := same_new (o := .tup [V.ref cm0, V.ref cm1]) h_cm
    have t_cm : SqT K (upd cH3 cm (.tup [V.ref cm0, V.ref cm1])) cm [V.ref cm0, V.ref cm1] := upd_tup
    generalize upd cH3 cm (.tup [V.ref cm0, V.ref cm1]) = cH4 at s_cm t_cm
    clear h_cm
    refine ⟨by show 5 ≤ sizeLine; decide, fun c h_c => ?_⟩
    have s_c := same_new (o := .tup [V.int (-1), V.int 1, V.ref cs, V.ref cm, V.int 0]) h_c
    have t_c : SqT K (upd cH4 c (.tup [V.int (-1), V.int 1, V.ref cs, V.ref cm, V.int 0])) c [V.int (-1), V.int 1, V.ref cs, V.ref cm, V.int 0] := upd_tup
    generalize upd cH4 c (.tup [V.int (-1), V.int 1, V.ref cs, V.ref cm, V.int 0]) = H3 at s_c t_c
    clear h_c
    have d_c : Dp K H3 (.ref c) tinyK.dat := .tup t_c (.cons (.int _) (.cons (.int _) (.cons (.tup (same_tup (((s_cm0.trans s_cm1).trans s_cm).trans s_c) t_cs) (.cons (.int _) .nil)) (.cons (.tup (same_tup s_c t_cm) (.cons (.tup (same_tup ((s_cm1.trans s_cm).trans s_c) t_cm0) (.cons (.int _) (.cons (.int _) .nil))) (.cons (.tup (same_tup (s_cm.trans s_c) t_cm1) (.cons (.int _) (.cons (.int _) .nil))) .nil))) (.cons (.int _) .nil)))))
    have s_c_ : Same H2 H3 := ((((s_cs.trans s_cm0).trans s_cm1).trans s_cm).trans s_c)
    clear s_cs t_cs s_cm0 t_cm0 s_cm1 t_cm1 s_cm t_cm s_c t_c
    rename Same H2 H3 => s_c
    refine ⟨by show 2 ≤ sizeLine; decide, fun r h_r => ?_⟩
    have s_r := same_new (o := .tup [V.int 0, V.int 1]) h_r
    have t_r : SqT K (upd H3 r (.tup [V.int 0, V.int 1])) r [V.int 0, V.int 1] := upd_tup
    generalize upd H3 r (.tup [V.int 0, V.int 1]) = H4 at s_r t_r
    clear h_r
    have hrow : Dp K H4 (.ref r) (rowI [0, 1]) := dp_row t_r
    have O1 := tiny_ok
    refine fun mo dm hm' hdm nem => ?_
    refine clip_mk (T := T) (row := [0, 1]) hm' hdm O1 (dp_same s_r _ _ d_c) hrow ⟨by decide, by decide⟩ (dp_mkpair (s := (0, 0)) (T.qs_Clip_init _)) tiny_St fun H5 s5 hmo => ⟨rfl, fun p dp hpn hdpn nep => ?_⟩
    refine mk_desk hmo hpn hdpn fun f d u H6 s6 _ hd hu dk => ⟨rfl, ?_⟩
    have T6 := tabs_same T2 (((s_c.trans s_r).trans s5).trans s6)
    clear hm' hdm nem hpn hdpn nep hmo s5 s6 s_c d_c s_r t_r hrow hd hu
    obtain ⟨dx, _, _, hp, _⟩ := dk.ob
    refine ⟨_, rfl, p, dx, _, rfl, hp, rfl, ?_⟩
    refine ⟨by show 3 ≤ sizeLine; decide, fun g h_g => ?_⟩
    have s_g := same_new (o := .tup [V.str "set", V.int 0, V.int 1]) h_g
    have t_g : SqT K (upd H6 g (.tup [V.str "set", V.int 0, V.int 1])) g [V.str "set", V.int 0, V.int 1] := upd_tup
    generalize upd H6 g (.tup [V.str "set", V.int 0, V.int 1]) = H7 at s_g t_g
    clear h_g
    dsimp only [tNil]
    refine do_good (s := .set 0 1) (dk.same s_g) (.tup t_g (.cons (.str _) (.cons (.int _) (.cons (.int _) .nil)))) ⟨by decide, by decide⟩ (by decide) (by decide) fun z u2 H8 F hu2 dk2 hz => ?_
    have T8 := tabs_dkf (tabs_same T6 s_g) F (s_g _ _ hp) (dk.same s_g).dl.choose_spec.1 (dk.same s_g).ul.choose_spec.1
    clear T6 s_g t_g F hp hu2 hz dk
    have ok1 : stpsOk tinyK [0, 1] [.set 0 1] := ⟨⟨by decide, by decide⟩, by decide, True.intro⟩
    have dk2 : DkC T H8 p f d u2 tinyK [0, 1] (0, 0) ([] ++ [.set 0 1]) [] 1 := dk2
    obtain ⟨dx, _, _, hp, _⟩ := dk2.ob
    refine ⟨_, rfl, p, dx, _, rfl, hp, rfl, ?_⟩
    dsimp only [tNil]
    refine undo_ok dk2 ok1 ⟨by decide, by decide⟩ tiny_St (by decide) (by decide) fun v H9 F dk3 hv => ?_
    have T9 := tabs_dkf T8 F hp dk2.dl.choose_spec.1 dk2.ul.choose_spec.1
    refine ⟨by show 3 ≤ sizeLine; decide, fun g h_g => ?_⟩
    have s_g := same_new (o := .tup [V.str "set", V.int 0, V.int 1]) h_g
    have t_g : SqT K (upd H9 g (.tup [V.str "set", V.int 0, V.int 1])) g [V.str "set", V.int 0, V.int 1] := upd_tup
    generalize upd H9 g (.tup [V.str "set", V.int 0, V.int 1]) = H10 at s_g t_g
    clear h_g
    refine neD_same (dp_same s_g _ _ hv) (.tup t_g (.cons (.str _) (.cons (.int _) (.cons (.int _) .nil)))) (by decide +kernel) ?_
    have dk3 := dk3.same s_g
    have T10 := tabs_same T9 s_g
    clear hv s_g t_g F hp T8 T9 dk2
    obtain ⟨dx, _, _, hp, _⟩ := dk3.ob
    refine ⟨_, rfl, p, dx, _, rfl, hp, rfl, ?_⟩
    refine ⟨by show 3 ≤ sizeLine; decide, fun g h_g => ?_⟩
    have s_g := same_new (o := .tup [V.str "put", V.int 0, V.int 0]) h_g
    have t_g : SqT K (upd H10 g (.tup [V.str "put", V.int 0, V.int 0])) g [V.str "put", V.int 0, V.int 0] := upd_tup
    generalize upd H10 g (.tup [V.str "put", V.int 0, V.int 0]) = H11 at s_g t_g
    clear h_g
    refine ⟨by show 1 ≤ sizeLine; decide, fun L h_L => ?_⟩
    have s_L := same_new (o := .lst [V.ref g]) h_L
    have l_L : (upd H11 L (.lst [V.ref g])) L = some (.lst [V.ref g]) := upd_same
    generalize upd H11 L (.lst [V.ref g]) = H12 at s_L l_L
    clear h_L
    have dk4 := (dk3.same s_g).same s_L
    dsimp only [tNil]
    refine all_good (ss := [.put 0 0]) dk4 (.inl l_L) (.cons (.tup (same_tup s_L t_g) (.cons (.str _) (.cons (.int _) (.cons (.int _) .nil)))) .nil) ⟨⟨by decide, by decide⟩, by decide, True.intro⟩ (by decide) fun R reps u3 H13 F hR _ hreps hu3 dk5 => ?_
    have T13 := tabs_dkf (tabs_same T10 (s_g.trans s_L)) F ((s_g.trans s_L) _ _ hp) dk4.dl.choose_spec.1 dk4.ul.choose_spec.1
    have hl := dpAll_len hreps
    clear F s_g s_L t_g l_L hp T10 dk3 dk4
    refine ⟨R, reps, rfl, .inl (SqL.of hR), rfl, _, rfl, ?_⟩
    rw [hl, rpl_len, show decide (V.int ((([Stp.put 0 0] : List Stp).length : Nat) : Int) = V.int 1) = true from decide_eq_true rfl]
    refine iteF ?_
    -- redo
    refine ⟨T13, fun J1 e1 t1 J2 s2 Q2 _ => ?_⟩
    have dk5 : DkC T J2 p f d u3 tinyK [0, 1] (0, 0) [.put 0 0] [] 3 := (dk5.extN e1).same s2
    have TJ := tabs_same t1 s2
    obtain ⟨dx, _, _, hp, _⟩ := dk5.ob
    refine ⟨_, rfl, p, dx, _, rfl, hp, rfl, ?_⟩
    dsimp only [tNil]
    refine ⟨p, f, d, u3, tinyK, [0, 1], _, (0, 0), _, _, _, 3, rfl, dk5, by decide, by decide, fun _ J3 F dk6 => nothing_E fun z J4 s4 hz => ?_, fun dn' s' e' hz => by cases dn' <;> cases hz⟩
    have T4 := tabs_same (tabs_dkf TJ F hp dk5.dl.choose_spec.1 dk5.ul.choose_spec.1) s4
    have dk6 := dk6.same s4
    refine ⟨by show 2 ≤ sizeLine; decide, fun e h_e => ?_⟩
    have s_e := same_new (o := .tup [V.str "nothing", V.non]) h_e
    have t_e : SqT K (upd J4 e (.tup [V.str "nothing", V.non])) e [V.str "nothing", V.non] := upd_tup
    generalize upd J4 e (.tup [V.str "nothing", V.non]) = J5 at s_e t_e
    clear h_e
    refine neD_same (dp_same s_e _ _ hz) (.tup t_e (.cons (.str _) (.cons .non .nil))) (by decide +kernel) ?_
    have dk6 := dk6.same s_e
    have T5 := tabs_same T4 s_e
    clear hz s_e t_e s4 F hp dk5 e1 t1 s2 TJ T4 T13 hR hreps hl
    obtain ⟨dx, _, _, hp, _⟩ := dk6.ob
    obtain ⟨ds, hd, hds⟩ := dk6.dl
    refine ⟨_, rfl, p, dx, _, rfl, hp, rfl, p, dx, d, _, _, _, _, _, _, ds, rfl, hp, hd, hds, by rw [dpAll_len hds]; decide, fun L zs J6 s6 _ hL hzs => ?_⟩
    refine ⟨by show 3 ≤ sizeLine; decide, fun g h_g => ?_⟩
    have s_g := same_new (o := .tup [V.str "put", V.int 0, V.int 0]) h_g
    have t_g : SqT K (upd J6 g (.tup [V.str "put", V.int 0, V.int 0])) g [V.str "put", V.int 0, V.int 0] := upd_tup
    generalize upd J6 g (.tup [V.str "put", V.int 0, V.int 0]) = J7 at s_g t_g
    clear h_g
    refine ⟨by show 1 ≤ sizeLine; decide, fun L2 h_L2 => ?_⟩
    have s_L2 := same_new (o := .lst [V.ref g]) h_L2
    have l_L2 : (upd J7 L2 (.lst [V.ref g])) L2 = some (.lst [V.ref g]) := upd_same
    generalize upd J7 L2 (.lst [V.ref g]) = J8 at s_L2 l_L2
    clear h_L2
    have s68 := s_g.trans s_L2
    refine neD_same (d := .list [Stp.dat (.put 0 0)]) (.lst (SqL.of (s68 _ _ hL)) (dpAll_same s68 _ _ hzs)) (.lst (SqL.of l_L2) (.cons (.tup (same_tup s_L2 t_g) (.cons (.str _) (.cons (.int _) (.cons (.int _) .nil)))) .nil)) (by decide +kernel) ?_
    have T8 := tabs_same T5 (s6.trans s68)
    clear s68 s6 s_g s_L2 t_g l_L2 hzs hL hds hd hp dk6 T5
    refine ⟨_, rfl, ?_⟩
    refine ⟨by show 1 ≤ sizeLine; decide, fun cs h_cs => ?_⟩
    have s_cs := same_new (o := .tup [V.int 1]) h_cs
    have t_cs : SqT K (upd J8 cs (.tup [V.int 1])) cs [V.int 1] := upd_tup
    generalize upd J8 cs (.tup [V.int 1]) = cH1 at s_cs t_cs
    clear h_cs
    refine ⟨by show 2 ≤ sizeLine; decide, fun cm0 h_cm0 => ?_⟩
    have s_cm0 := same_new (o := .tup [V.int 8, V.int 0]) h_cm0
    have t_cm0 : SqT K (upd cH1 cm0 (.tup [V.int 8, V.int 0])) cm0 [V.int 8, V.int 0] := upd_tup
    generalize upd cH1 cm0 (.tup [V.int 8, V.int 0]) = cH2 at s_cm0 t_cm0
    clear h_cm0
    refine ⟨_, rfl, ?_⟩
    refine ⟨by show 2 ≤ sizeLine; decide, fun cm1 h_cm1 => ?_⟩
    have s_cm1 := same_new (o := .tup [V.int (-8), V.int 0]) h_cm1
    have t_cm1 : SqT K (upd cH2 cm1 (.tup [V.int (-8), V.int 0])) cm1 [V.int (-8), V.int 0] := upd_tup
    generalize upd cH2 cm1 (.tup [V.int (-8), V.int 0]) = cH3 at s_cm1 t_cm1
    clear h_cm1
    refine ⟨by show 2 ≤ sizeLine; decide, fun cm h_cm => ?_⟩
    have s_cm := same_new (o := .tup [V.ref cm0, V.ref cm1]) h_cm
    have t_cm : SqT K (upd cH3 cm (.tup [V.ref cm0, V.ref cm1])) cm [V.ref cm0, V.ref cm1] := upd_tup
    generalize upd cH3 cm (.tup [V.ref cm0, V.ref cm1]) = cH4 at s_cm t_cm
    clear h_cm
    refine ⟨by show 5 ≤ sizeLine; decide, fun c h_c => ?_⟩
    have s_c := same_new (o := .tup [V.int (-1), V.int 1, V.ref cs, V.ref cm, V.int 0]) h_c
    have t_c : SqT K (upd cH4 c (.tup [V.int (-1), V.int 1, V.ref cs, V.ref cm, V.int 0])) c [V.int (-1), V.int 1, V.ref cs, V.ref cm, V.int 0] := upd_tup
    generalize upd cH4 c (.tup [V.int (-1), V.int 1, V.ref cs, V.ref cm, V.int 0]) = J9 at s_c t_c
    clear h_c
    have d_c : Dp K J9 (.ref c) tinyK.dat := .tup t_c (.cons (.int _) (.cons (.int _) (.cons (.tup (same_tup (((s_cm0.trans s_cm1).trans s_cm).trans s_c) t_cs) (.cons (.int _) .nil)) (.cons (.tup (same_tup s_c t_cm) (.cons (.tup (same_tup ((s_cm1.trans s_cm).trans s_c) t_cm0) (.cons (.int _) (.cons (.int _) .nil))) (.cons (.tup (same_tup (s_cm.trans s_c) t_cm1) (.cons (.int _) (.cons (.int _) .nil))) .nil))) (.cons (.int _) .nil)))))
    have s_c_ : Same J8 J9 := ((((s_cs.trans s_cm0).trans s_cm1).trans s_cm).trans s_c)
    clear s_cs t_cs s_cm0 t_cm0 s_cm1 t_cm1 s_cm t_cm s_c t_c
    rename Same J8 J9 => s_c
    refine ⟨by show 1 ≤ sizeLine; decide, fun z h_z => ?_⟩
    have s_z := same_new (o := .tup [V.int 0]) h_z
    have t_z : SqT K (upd J9 z (.tup [V.int 0])) z [V.int 0] := upd_tup
    generalize upd J9 z (.tup [V.int 0]) = JA at s_z t_z
    clear h_z
    refine ⟨z, 1999, _, rfl, rfl, t_z, by decide, by decide, fun r JB s_r hr => ?_⟩
    have hrow : Dp K JB (.ref r) (rowI bigZ) := dp_row (by unfold rowV bigZ; rw [List.map_replicate]; exact hr)
    refine fun mo dm hm' hdm nem => ?_
    refine clip_mk (T := T) (row := bigZ) hm' hdm O1 (dp_same (s_z.trans s_r) _ _ d_c) hrow bigZ_row (dp_mkpair (s := (0, 0)) (T.qs_Clip_init _)) tiny_St fun H5 s5 hmo => ⟨rfl, fun p dp hpn hdpn nep => ?_⟩
    refine mk_desk hmo hpn hdpn fun f d u H6 s6 _ hd hu dk => ⟨rfl, ?_⟩
    have T6 := tabs_same T8 ((((s_c.trans s_z).trans s_r).trans s5).trans s6)
    clear hm' hdm nem hpn hdpn nep hmo s5 s6 s_c d_c s_r s_z t_z hrow hd hu hr T8
    refine ⟨T6, fun J1 e1 t1 J2 s2 Q2 _ => ?_⟩
    have dk := (dk.extN e1).same s2
    have TJ := tabs_same t1 s2
    obtain ⟨dx, _, _, hp, _⟩ := dk.ob
    refine ⟨_, rfl, p, dx, _, rfl, hp, rfl, ?_⟩
    refine ⟨by show 3 ≤ sizeLine; decide, fun g h_g => ?_⟩
    have s_g := same_new (o := .tup [V.str "put", V.int 0, V.int 1]) h_g
    have t_g : SqT K (upd J2 g (.tup [V.str "put", V.int 0, V.int 1])) g [V.str "put", V.int 0, V.int 1] := upd_tup
    generalize upd J2 g (.tup [V.str "put", V.int 0, V.int 1]) = J3 at s_g t_g
    clear h_g
    refine ⟨by show 3 ≤ sizeLine; decide, fun g2 h_g2 => ?_⟩
    have s_g2 := same_new (o := .tup [V.str "put", V.int 0, V.int 1]) h_g2
    have t_g2 : SqT K (upd J3 g2 (.tup [V.str "put", V.int 0, V.int 1])) g2 [V.str "put", V.int 0, V.int 1] := upd_tup
    generalize upd J3 g2 (.tup [V.str "put", V.int 0, V.int 1]) = J4 at s_g2 t_g2
    clear h_g2
    refine ⟨by show 2 ≤ sizeLine; decide, fun L h_L => ?_⟩
    have s_L := same_new (o := .lst [V.ref g, V.ref g2]) h_L
    have l_L : (upd J4 L (.lst [V.ref g, V.ref g2])) L = some (.lst [V.ref g, V.ref g2]) := upd_same
    generalize upd J4 L (.lst [V.ref g, V.ref g2]) = J5 at s_L l_L
    clear h_L
    have s25 := (s_g.trans s_g2).trans s_L
    have dk5 := dk.same s25
    have ok1 : (Stp.put 0 1).Ok tinyK bigZ := ⟨Nat.zero_le _, by decide⟩
    have l1 : ((Stp.put 0 1).row bigZ).length = 2000 := by
      show (bigZ.take 0 ++ [1] ++ bigZ.drop 0).length = 2000
      rw [List.length_append, List.length_append, List.length_take, List.length_drop, bigZ_len]
      rfl
    dsimp only [tNil]
    refine all_great (ss := [.put 0 1]) (xs := [.ref g]) (y := .ref g2) (yr := []) (i := 0) (k := 1) dk5 (.inl l_L) (.cons (.tup (same_tup (s_g2.trans s_L) t_g) (.cons (.str _) (.cons (.int _) (.cons (.int _) .nil)))) .nil) ⟨ok1, Nat.le_of_eq l1, True.intro⟩ (by decide) (.tup (same_tup s_L t_g2) (.cons (.str _) (.cons (.int _) (.cons (.int _) .nil)))) ⟨Nat.zero_le _, by decide⟩ l1 fun H7 F dk6 => great_E fun z2 J7 s7 hz => ?_
    have dk6 := dk6.same s7
    refine ⟨by show 2 ≤ sizeLine; decide, fun e h_e => ?_⟩
    have s_e := same_new (o := .tup [V.str "great", V.int 2000]) h_e
    have t_e : SqT K (upd J7 e (.tup [V.str "great", V.int 2000])) e [V.str "great", V.int 2000] := upd_tup
    generalize upd J7 e (.tup [V.str "great", V.int 2000]) = J8 at s_e t_e
    clear h_e
    refine neD_same (dp_same s_e _ _ hz) (.tup t_e (.cons (.str _) (.cons (.int _) .nil))) (by decide +kernel) ?_
    have dk6 := dk6.same s_e
    clear hz s_e t_e s7 F dk5 s25 s_g s_g2 s_L t_g t_g2 l_L hp dk TJ e1 t1 s2 l1
    obtain ⟨dx, _, _, hp, _⟩ := dk6.ob
    refine ⟨_, rfl, p, dx, _, rfl, hp, rfl, ?_⟩
    refine ⟨by show 3 ≤ sizeLine; decide, fun g h_g => ?_⟩
    have s_g := same_new (o := .tup [V.str "cut", V.int 0, V.int 9]) h_g
    have t_g : SqT K (upd J8 g (.tup [V.str "cut", V.int 0, V.int 9])) g [V.str "cut", V.int 0, V.int 9] := upd_tup
    generalize upd J8 g (.tup [V.str "cut", V.int 0, V.int 9]) = J9 at s_g t_g
    clear h_g
    refine ⟨by show 3 ≤ sizeLine; decide, fun g2 h_g2 => ?_⟩
    have s_g2 := same_new (o := .tup [V.str "put", V.int 0, V.int 1]) h_g2
    have t_g2 : SqT K (upd J9 g2 (.tup [V.str "put", V.int 0, V.int 1])) g2 [V.str "put", V.int 0, V.int 1] := upd_tup
    generalize upd J9 g2 (.tup [V.str "put", V.int 0, V.int 1]) = J10 at s_g2 t_g2
    clear h_g2
    refine ⟨by show 2 ≤ sizeLine; decide, fun L h_L => ?_⟩
    have s_L := same_new (o := .tup [V.ref g, V.ref g2]) h_L
    have t_L : SqT K (upd J10 L (.tup [V.ref g, V.ref g2])) L [V.ref g, V.ref g2] := upd_tup
    generalize upd J10 L (.tup [V.ref g, V.ref g2]) = J11 at s_L t_L
    clear h_L
    have s25 := (s_g.trans s_g2).trans s_L
    have dk7 := dk6.same s25
    have lc : ((Stp.cut 0 9).row bigZ).length = 1990 := by
      show (bigZ.take 0 ++ bigZ.drop 9).length = 1990
      rw [List.length_append, List.length_take, List.length_drop, bigZ_len]
      rfl
    have lp : ((Stp.put 0 1).row ((Stp.cut 0 9).row bigZ)).length = 1991 := by
      show (((Stp.cut 0 9).row bigZ).take 0 ++ [1] ++ ((Stp.cut 0 9).row bigZ).drop 0).length = 1991
      rw [List.length_append, List.length_append, List.length_take, List.length_drop, lc]
      rfl
    dsimp only [tNil]
    refine all_good (ss := [.cut 0 9, .put 0 1]) dk7 (.inr t_L) (.cons (.tup (same_tup (s_g2.trans s_L) t_g) (.cons (.str _) (.cons (.int _) (.cons (.int _) .nil)))) (.cons (.tup (same_tup s_L t_g2) (.cons (.str _) (.cons (.int _) (.cons (.int _) .nil)))) .nil)) ⟨⟨by decide, by rw [bigZ_len]; decide⟩, by omega, ⟨Nat.zero_le _, by decide⟩, by omega, True.intro⟩ (by decide) fun R reps u3 H13 F hR _ hreps hu3 dk8 => ?_
    have hl := dpAll_len hreps
    have hl := dpAll_len hreps
    obtain ⟨dx, _, _, hp8, _⟩ := dk8.ob
    refine ⟨_, rfl, p, dx, _, rfl, hp8, rfl, ?_⟩
    refine ⟨p, f, d, u3, tinyK, _, _, _, _, _, _, _, rfl, dk8, fun y H14 s14 _ hcl => ?_⟩
    obtain ⟨dy, c1, r1, x1, hy, _⟩ := hcl.ex
    refine ⟨y, dy, _, rfl, hy, y, tinyK, _, _, rfl, hcl, _, rfl, ?_⟩
    rw [show ((endR bigZ [Stp.cut 0 9, Stp.put 0 1]).length : Nat) = 1991 from lp]
    refine ⟨by decide, by decide, rfl, _, rfl, ?_⟩
    rw [show decide (V.int ((1991 : Nat) : Int) = V.int 1991) = true from decide_eq_true rfl]
    refine iteT ?_
    refine ⟨_, rfl, R, reps, rfl, .inl (SqL.of (s14 _ _ hR)), rfl, _, rfl, ?_⟩
    rw [hl, rpl_len, show decide (V.int ((([Stp.cut 0 9, Stp.put 0 1] : List Stp).length : Nat) : Int) = V.int 2) = true from decide_eq_true rfl]
    refine iteT ?_
    refine ⟨_, rfl, p, dx, _, rfl, s14 _ _ hp8, rfl, p, dx, _, _, _, _, _, _, rfl, s14 _ _ hp8, rfl, ?_⟩
    exact q _
end
end My

set_option pp.maxSteps 1200
namespace My
open PySem PySem.Spec PyProof.Rows L2 LamX
set_option maxHeartbeats 0 in
theorem all_mk {l : PySem.W.OpenLaw} {w : World} {K : PySem.W.Frag} {h : Heap} {mg : Str → Option Value} {fa : Addr} (X : K.In h) (G : h.Ns mainGlobals mg) (hfa : mg "law" = some (.ref fa)) (own : ∀ nm ∈ (["_law_none_right", "law"] : List Str), ∀ f, mg nm = some (.ref f) → OwnTab K f h)
    {oc0 kV0 dc0 pm0 cd0 ct0 : Value} {od0 an0 : Option Addr} {sl0 : Array (Option Value)} {f0 : Addr}
    {oc1 kV1 dc1 pm1 cd1 ct1 : Value} {od1 an1 : Option Addr} {sl1 : Array (Option Value)} {f1 : Addr}
    {oc2 kV2 dc2 pm2 cd2 ct2 : Value} {od2 an2 : Option Addr} {sl2 : Array (Option Value)} {f2 : Addr}
    {oc3 kV3 dc3 pm3 cd3 ct3 : Value} {od3 an3 : Option Addr} {sl3 : Array (Option Value)} {f3 : Addr}
    {oc4 kV4 dc4 pm4 cd4 ct4 : Value} {od4 an4 : Option Addr} {sl4 : Array (Option Value)} {f4 : Addr}
    {oc5 kV5 dc5 pm5 cd5 ct5 : Value} {od5 an5 : Option Addr} {sl5 : Array (Option Value)} {f5 : Addr}
    {oc6 kV6 dc6 pm6 cd6 ct6 : Value} {od6 an6 : Option Addr} {sl6 : Array (Option Value)} {f6 : Addr}
    {oc7 kV7 dc7 pm7 cd7 ct7 : Value} {od7 an7 : Option Addr} {sl7 : Array (Option Value)} {f7 : Addr}
    {oc8 kV8 dc8 pm8 cd8 ct8 : Value} {od8 an8 : Option Addr} {sl8 : Array (Option Value)} {f8 : Addr}
    {oc9 kV9 dc9 pm9 cd9 ct9 : Value} {od9 an9 : Option Addr} {sl9 : Array (Option Value)} {f9 : Addr}
    {oc10 kV10 dc10 pm10 cd10 ct10 : Value} {od10 an10 : Option Addr} {sl10 : Array (Option Value)} {f10 : Addr}
    {oc11 kV11 dc11 pm11 cd11 ct11 : Value} {od11 an11 : Option Addr} {sl11 : Array (Option Value)} {f11 : Addr}
    {oc12 kV12 dc12 pm12 cd12 ct12 : Value} {od12 an12 : Option Addr} {sl12 : Array (Option Value)} {f12 : Addr}
    {oc13 kV13 dc13 pm13 cd13 ct13 : Value} {od13 an13 : Option Addr} {sl13 : Array (Option Value)} {f13 : Addr}
    {oc14 kV14 dc14 pm14 cd14 ct14 : Value} {od14 an14 : Option Addr} {sl14 : Array (Option Value)} {f14 : Addr}
    {oc15 kV15 dc15 pm15 cd15 ct15 : Value} {od15 an15 : Option Addr} {sl15 : Array (Option Value)} {f15 : Addr}
    {oc16 kV16 dc16 pm16 cd16 ct16 : Value} {od16 an16 : Option Addr} {sl16 : Array (Option Value)} {f16 : Addr}
    {oc17 kV17 dc17 pm17 cd17 ct17 : Value} {od17 an17 : Option Addr} {sl17 : Array (Option Value)} {f17 : Addr}
    {oc18 kV18 dc18 pm18 cd18 ct18 : Value} {od18 an18 : Option Addr} {sl18 : Array (Option Value)} {f18 : Addr}
    {oc19 kV19 dc19 pm19 cd19 ct19 : Value} {od19 an19 : Option Addr} {sl19 : Array (Option Value)} {f19 : Addr}
    {oc20 kV20 dc20 pm20 cd20 ct20 : Value} {od20 an20 : Option Addr} {sl20 : Array (Option Value)} {f20 : Addr}
    {oc21 kV21 dc21 pm21 cd21 ct21 : Value} {od21 an21 : Option Addr} {sl21 : Array (Option Value)} {f21 : Addr}
    {oc22 kV22 dc22 pm22 cd22 ct22 : Value} {od22 an22 : Option Addr} {sl22 : Array (Option Value)} {f22 : Addr}
    {oc23 kV23 dc23 pm23 cd23 ct23 : Value} {od23 an23 : Option Addr} {sl23 : Array (Option Value)} {f23 : Addr}
    {oc24 kV24 dc24 pm24 cd24 ct24 : Value} {od24 an24 : Option Addr} {sl24 : Array (Option Value)} {f24 : Addr}
    {oc25 kV25 dc25 pm25 cd25 ct25 : Value} {od25 an25 : Option Addr} {sl25 : Array (Option Value)} {f25 : Addr}
    {oc26 kV26 dc26 pm26 cd26 ct26 : Value} {od26 an26 : Option Addr} {sl26 : Array (Option Value)} {f26 : Addr}
    {oc27 kV27 dc27 pm27 cd27 ct27 : Value} {od27 an27 : Option Addr} {sl27 : Array (Option Value)} {f27 : Addr}
    {oc28 kV28 dc28 pm28 cd28 ct28 : Value} {od28 an28 : Option Addr} {sl28 : Array (Option Value)} {f28 : Addr}
    {oc29 kV29 dc29 pm29 cd29 ct29 : Value} {od29 an29 : Option Addr} {sl29 : Array (Option Value)} {f29 : Addr}
    {oc30 kV30 dc30 pm30 cd30 ct30 : Value} {od30 an30 : Option Addr} {sl30 : Array (Option Value)} {f30 : Addr}
    {oc31 kV31 dc31 pm31 cd31 ct31 : Value} {od31 an31 : Option Addr} {sl31 : Array (Option Value)} {f31 : Addr}
    {oc32 kV32 dc32 pm32 cd32 ct32 : Value} {od32 an32 : Option Addr} {sl32 : Array (Option Value)} {f32 : Addr}
    {oc33 kV33 dc33 pm33 cd33 ct33 : Value} {od33 an33 : Option Addr} {sl33 : Array (Option Value)} {f33 : Addr}
    {oc34 kV34 dc34 pm34 cd34 ct34 : Value} {od34 an34 : Option Addr} {sl34 : Array (Option Value)} {f34 : Addr}
    {oc35 kV35 dc35 pm35 cd35 ct35 : Value} {od35 an35 : Option Addr} {sl35 : Array (Option Value)} {f35 : Addr}
    {oc36 kV36 dc36 pm36 cd36 ct36 : Value} {od36 an36 : Option Addr} {sl36 : Array (Option Value)} {f36 : Addr}
    {oc37 kV37 dc37 pm37 cd37 ct37 : Value} {od37 an37 : Option Addr} {sl37 : Array (Option Value)} {f37 : Addr}
    {oc38 kV38 dc38 pm38 cd38 ct38 : Value} {od38 an38 : Option Addr} {sl38 : Array (Option Value)} {f38 : Addr}
    {oc39 kV39 dc39 pm39 cd39 ct39 : Value} {od39 an39 : Option Addr} {sl39 : Array (Option Value)} {f39 : Addr}
    {oc40 kV40 dc40 pm40 cd40 ct40 : Value} {od40 an40 : Option Addr} {sl40 : Array (Option Value)} {f40 : Addr}
    {oc41 kV41 dc41 pm41 cd41 ct41 : Value} {od41 an41 : Option Addr} {sl41 : Array (Option Value)} {f41 : Addr}
    {oc42 kV42 dc42 pm42 cd42 ct42 : Value} {od42 an42 : Option Addr} {sl42 : Array (Option Value)} {f42 : Addr}
    {oc43 kV43 dc43 pm43 cd43 ct43 : Value} {od43 an43 : Option Addr} {sl43 : Array (Option Value)} {f43 : Addr}
    {oc44 kV44 dc44 pm44 cd44 ct44 : Value} {od44 an44 : Option Addr} {sl44 : Array (Option Value)} {f44 : Addr}
    {oc45 kV45 dc45 pm45 cd45 ct45 : Value} {od45 an45 : Option Addr} {sl45 : Array (Option Value)} {f45 : Addr}
    {oc46 kV46 dc46 pm46 cd46 ct46 : Value} {od46 an46 : Option Addr} {sl46 : Array (Option Value)} {f46 : Addr}
    {oc47 kV47 dc47 pm47 cd47 ct47 : Value} {od47 an47 : Option Addr} {sl47 : Array (Option Value)} {f47 : Addr}
    {oc48 kV48 dc48 pm48 cd48 ct48 : Value} {od48 an48 : Option Addr} {sl48 : Array (Option Value)} {f48 : Addr}
    {oc49 kV49 dc49 pm49 cd49 ct49 : Value} {od49 an49 : Option Addr} {sl49 : Array (Option Value)} {f49 : Addr}
    {oc50 kV50 dc50 pm50 cd50 ct50 : Value} {od50 an50 : Option Addr} {sl50 : Array (Option Value)} {f50 : Addr}
    {oc51 kV51 dc51 pm51 cd51 ct51 : Value} {od51 an51 : Option Addr} {sl51 : Array (Option Value)} {f51 : Addr}
    {oc52 kV52 dc52 pm52 cd52 ct52 : Value} {od52 an52 : Option Addr} {sl52 : Array (Option Value)} {f52 : Addr}
    {oc53 kV53 dc53 pm53 cd53 ct53 : Value} {od53 an53 : Option Addr} {sl53 : Array (Option Value)} {f53 : Addr}
    {oc54 kV54 dc54 pm54 cd54 ct54 : Value} {od54 an54 : Option Addr} {sl54 : Array (Option Value)} {f54 : Addr}
    {oc55 kV55 dc55 pm55 cd55 ct55 : Value} {od55 an55 : Option Addr} {sl55 : Array (Option Value)} {f55 : Addr}
    {oc56 kV56 dc56 pm56 ct56 : Value} {od56 an56 : Option Addr} {sl56 : Array (Option Value)} {f56 : Addr} {cL56 PL56 : Addr} {eL56 : Value} {ddL56 : Option Addr} {vsL56 : Array Value} {slL56 : Array (Option Value)}
    {oc57 kV57 dc57 pm57 ct57 : Value} {od57 an57 : Option Addr} {sl57 : Array (Option Value)} {f57 : Addr} {cL57 PL57 : Addr} {eL57 : Value} {ddL57 : Option Addr} {vsL57 : Array Value} {slL57 : Array (Option Value)}
    {CO0 : Addr}
    {oc58 dc58 pm58 cd58 ct58 : Value} {od58 an58 : Option Addr} {sl58 : Array (Option Value)} {f58 TD58 qe58 D58 q58 : Addr}
    {dd58 : Option Addr} {tq58 tr58 : Tok} {nq58 : Nat} {sq58 : Array (Option Value)}
    {de58 : Option Addr} {ne58 : Nat} {se58 : Array (Option Value)}
    {dz58 : Option Addr} {nz58 : Nat} {sz58 : Array (Option Value)}
    {oc59 kV59 dc59 pm59 cd59 ct59 : Value} {od59 an59 : Option Addr} {sl59 : Array (Option Value)} {f59 p59 : Addr} {rest59 : List Value}
    {oc60 kV60 dc60 pm60 cd60 ct60 : Value} {od60 an60 : Option Addr} {sl60 : Array (Option Value)} {f60 p60 : Addr} {rest60 : List Value}
    {oc61 kV61 dc61 pm61 cd61 ct61 : Value} {od61 an61 : Option Addr} {sl61 : Array (Option Value)} {f61 p61 : Addr} {rest61 : List Value}
    {oc62 kV62 dc62 pm62 cd62 ct62 : Value} {od62 an62 : Option Addr} {sl62 : Array (Option Value)} {f62 : Addr}
    {oc63 kV63 dc63 pm63 cd63 ct63 : Value} {od63 an63 : Option Addr} {sl63 : Array (Option Value)} {f63 : Addr}
    {oc64 kV64 dc64 pm64 cd64 ct64 : Value} {od64 an64 : Option Addr} {sl64 : Array (Option Value)} {f64 : Addr}
    {oc65 kV65 dc65 pm65 cd65 ct65 : Value} {od65 an65 : Option Addr} {sl65 : Array (Option Value)} {f65 : Addr}
    {oc66 kV66 dc66 pm66 cd66 ct66 : Value} {od66 an66 : Option Addr} {sl66 : Array (Option Value)} {f66 : Addr}
    {oc67 kV67 dc67 pm67 cd67 ct67 : Value} {od67 an67 : Option Addr} {sl67 : Array (Option Value)} {f67 : Addr}
    {oc68 kV68 dc68 pm68 cd68 ct68 : Value} {od68 an68 : Option Addr} {sl68 : Array (Option Value)} {f68 : Addr}
    {oc69 kV69 dc69 pm69 cd69 ct69 : Value} {od69 an69 : Option Addr} {sl69 : Array (Option Value)} {f69 : Addr}
    {oc70 kV70 dc70 pm70 cd70 ct70 : Value} {od70 an70 : Option Addr} {sl70 : Array (Option Value)} {f70 : Addr}
    {oc71 kV71 dc71 pm71 cd71 ct71 : Value} {od71 an71 : Option Addr} {sl71 : Array (Option Value)} {f71 : Addr}
    {oc72 kV72 dc72 pm72 cd72 ct72 : Value} {od72 an72 : Option Addr} {sl72 : Array (Option Value)} {f72 : Addr}
    {oc73 kV73 dc73 pm73 cd73 ct73 : Value} {od73 an73 : Option Addr} {sl73 : Array (Option Value)} {f73 : Addr}
    {CO1 : Addr}
    {oc74 kV74 dc74 pm74 cd74 ct74 : Value} {od74 an74 : Option Addr} {sl74 : Array (Option Value)} {f74 : Addr}
    {oc75 kV75 dc75 pm75 cd75 ct75 : Value} {od75 an75 : Option Addr} {sl75 : Array (Option Value)} {f75 : Addr}
    {oc76 kV76 dc76 pm76 cd76 ct76 : Value} {od76 an76 : Option Addr} {sl76 : Array (Option Value)} {f76 : Addr}
    {oc77 kV77 dc77 pm77 cd77 ct77 : Value} {od77 an77 : Option Addr} {sl77 : Array (Option Value)} {f77 : Addr}
    {oc78 kV78 dc78 pm78 cd78 ct78 : Value} {od78 an78 : Option Addr} {sl78 : Array (Option Value)} {f78 : Addr}
    {oc79 kV79 dc79 pm79 cd79 ct79 : Value} {od79 an79 : Option Addr} {sl79 : Array (Option Value)} {f79 : Addr}
    {oc80 kV80 dc80 pm80 cd80 ct80 : Value} {od80 an80 : Option Addr} {sl80 : Array (Option Value)} {f80 : Addr}
    {oc81 kV81 dc81 pm81 cd81 ct81 : Value} {od81 an81 : Option Addr} {sl81 : Array (Option Value)} {f81 : Addr}
    {oc82 kV82 dc82 pm82 cd82 ct82 : Value} {od82 an82 : Option Addr} {sl82 : Array (Option Value)} {f82 : Addr}
    {oc83 kV83 dc83 pm83 cd83 ct83 : Value} {od83 an83 : Option Addr} {sl83 : Array (Option Value)} {f83 : Addr}
    {oc84 kV84 dc84 pm84 cd84 ct84 : Value} {od84 an84 : Option Addr} {sl84 : Array (Option Value)} {f84 : Addr}
    {oc85 kV85 dc85 pm85 cd85 ct85 : Value} {od85 an85 : Option Addr} {sl85 : Array (Option Value)} {f85 : Addr}
    {oc86 kV86 dc86 pm86 cd86 ct86 : Value} {od86 an86 : Option Addr} {sl86 : Array (Option Value)} {f86 : Addr}
    {oc87 kV87 dc87 pm87 cd87 ct87 : Value} {od87 an87 : Option Addr} {sl87 : Array (Option Value)} {f87 : Addr}
    {C0 g0 N0 : Addr} {nmC0 qC0 : Str} {bsC0 subC0 : List Value} {snC0 : List Str} {abC0 : Bool} {colC0 : Option Bool} {ddC0 : Option Addr} {m0C0 m1C0 m2C0 m3C0 m5C0 : Option Value} {ocC0 kVC0 dcC0 pmC0 cdC0 ctC0 : Value} {odC0 anC0 : Option Addr} {slC0 : Array (Option Value)}
    {C1 g1 N1 : Addr} {nmC1 qC1 : Str} {bsC1 subC1 : List Value} {snC1 : List Str} {abC1 : Bool} {colC1 : Option Bool} {ddC1 : Option Addr} {m0C1 m1C1 m2C1 m3C1 m5C1 : Option Value} {ocC1 kVC1 dcC1 pmC1 cdC1 ctC1 : Value} {odC1 anC1 : Option Addr} {slC1 : Array (Option Value)}
    {C2 g2 N2 : Addr} {nmC2 qC2 : Str} {bsC2 subC2 : List Value} {snC2 : List Str} {abC2 : Bool} {colC2 : Option Bool} {ddC2 : Option Addr} {m0C2 m1C2 m2C2 m3C2 m5C2 : Option Value} {ocC2 kVC2 dcC2 pmC2 cdC2 ctC2 : Value} {odC2 anC2 : Option Addr} {slC2 : Array (Option Value)}
    {C3 g3 N3 : Addr} {nmC3 qC3 : Str} {bsC3 subC3 : List Value} {snC3 : List Str} {abC3 : Bool} {colC3 : Option Bool} {ddC3 : Option Addr} {m0C3 m1C3 m2C3 m3C3 m5C3 : Option Value} {ocC3 kVC3 dcC3 pmC3 cdC3 ctC3 : Value} {odC3 anC3 : Option Addr} {slC3 : Array (Option Value)}
    {C4 g4 N4 : Addr} {nmC4 qC4 : Str} {bsC4 subC4 : List Value} {snC4 : List Str} {abC4 : Bool} {colC4 : Option Bool} {ddC4 : Option Addr} {m0C4 m1C4 m2C4 m3C4 m5C4 : Option Value} {ocC4 kVC4 dcC4 pmC4 cdC4 ctC4 : Value} {odC4 anC4 : Option Addr} {slC4 : Array (Option Value)}
    {C5 g5 N5 : Addr} {nmC5 qC5 : Str} {bsC5 subC5 : List Value} {snC5 : List Str} {abC5 : Bool} {colC5 : Option Bool} {ddC5 : Option Addr} {m0C5 m1C5 m2C5 m3C5 m5C5 : Option Value} {ocC5 kVC5 dcC5 pmC5 cdC5 ctC5 : Value} {odC5 anC5 : Option Addr} {slC5 : Array (Option Value)}
    {C6 : Addr}
    {C7 : Addr}
    {tMC : Tok}
    {qSTEPS : Addr} {dSTEPS : Option Addr} {nSTEPS : Nat} {sSTEPS : Array (Option Value)} {tSTEPS0x0 tSTEPS0x1 : Tok} {qSTEPS0 : Addr} {dSTEPS0 : Option Addr} {nSTEPS0 : Nat} {sSTEPS0 : Array (Option Value)} {tSTEPS1x0 tSTEPS1x1 : Tok} {qSTEPS1 : Addr} {dSTEPS1 : Option Addr} {nSTEPS1 : Nat} {sSTEPS1 : Array (Option Value)} {tSTEPS2x0 tSTEPS2x1 : Tok} {qSTEPS2 : Addr} {dSTEPS2 : Option Addr} {nSTEPS2 : Nat} {sSTEPS2 : Array (Option Value)} {tSTEPS3x0 tSTEPS3x1 : Tok} {qSTEPS3 : Addr} {dSTEPS3 : Option Addr} {nSTEPS3 : Nat} {sSTEPS3 : Array (Option Value)}
    (a0 : PySem.W.nsIn K mainGlobals "_wall" = some (some (.ref f0)))
    (l0 : K.lookup f0 = some ⟨oc0, od0, .func (PySem.W.fnOf "_wall" "_wall" (defArgs s_wall) (defBody s_wall) (defScope s_wall) .none kV0 dc0 pm0 an0 cd0 ct0), sl0⟩)
    (c0 : PySem.W.codeIn K cd0 "_wall" = true)
    (k0 : PySem.W.keepIn K (.ref f0) = true)
    (a1 : PySem.W.nsIn K mainGlobals "is_integer" = some (some (.ref f1)))
    (l1 : K.lookup f1 = some ⟨oc1, od1, .func (PySem.W.fnOf "is_integer" "is_integer" (defArgs s_is_integer) (defBody s_is_integer) (defScope s_is_integer) .none kV1 dc1 pm1 an1 cd1 ct1), sl1⟩)
    (c1 : PySem.W.codeIn K cd1 "is_integer" = true)
    (k1 : PySem.W.keepIn K (.ref f1) = true)
    (a2 : PySem.W.nsIn K mainGlobals "is_between" = some (some (.ref f2)))
    (l2 : K.lookup f2 = some ⟨oc2, od2, .func (PySem.W.fnOf "is_between" "is_between" (defArgs s_is_between) (defBody s_is_between) (defScope s_is_between) .none kV2 dc2 pm2 an2 cd2 ct2), sl2⟩)
    (c2 : PySem.W.codeIn K cd2 "is_between" = true)
    (k2 : PySem.W.keepIn K (.ref f2) = true)
    (a3 : PySem.W.nsIn K mainGlobals "is_pair" = some (some (.ref f3)))
    (l3 : K.lookup f3 = some ⟨oc3, od3, .func (PySem.W.fnOf "is_pair" "is_pair" (defArgs s_is_pair) (defBody s_is_pair) (defScope s_is_pair) .none kV3 dc3 pm3 an3 cd3 ct3), sl3⟩)
    (c3 : PySem.W.codeIn K cd3 "is_pair" = true)
    (k3 : PySem.W.keepIn K (.ref f3) = true)
    (a4 : PySem.W.nsIn K mainGlobals "is_code" = some (some (.ref f4)))
    (l4 : K.lookup f4 = some ⟨oc4, od4, .func (PySem.W.fnOf "is_code" "is_code" (defArgs s_is_code) (defBody s_is_code) (defScope s_is_code) .none kV4 dc4 pm4 an4 cd4 ct4), sl4⟩)
    (c4 : PySem.W.codeIn K cd4 "is_code" = true)
    (k4 : PySem.W.keepIn K (.ref f4) = true)
    (a5 : PySem.W.nsIn K mainGlobals "is_place" = some (some (.ref f5)))
    (l5 : K.lookup f5 = some ⟨oc5, od5, .func (PySem.W.fnOf "is_place" "is_place" (defArgs s_is_place) (defBody s_is_place) (defScope s_is_place) .none kV5 dc5 pm5 an5 cd5 ct5), sl5⟩)
    (c5 : PySem.W.codeIn K cd5 "is_place" = true)
    (k5 : PySem.W.keepIn K (.ref f5) = true)
    (a6 : PySem.W.nsIn K mainGlobals "is_state" = some (some (.ref f6)))
    (l6 : K.lookup f6 = some ⟨oc6, od6, .func (PySem.W.fnOf "is_state" "is_state" (defArgs s_is_state) (defBody s_is_state) (defScope s_is_state) .none kV6 dc6 pm6 an6 cd6 ct6), sl6⟩)
    (c6 : PySem.W.codeIn K cd6 "is_state" = true)
    (k6 : PySem.W.keepIn K (.ref f6) = true)
    (a7 : PySem.W.nsIn K mainGlobals "need_state" = some (some (.ref f7)))
    (l7 : K.lookup f7 = some ⟨oc7, od7, .func (PySem.W.fnOf "need_state" "need_state" (defArgs s_need_state) (defBody s_need_state) (defScope s_need_state) .none kV7 dc7 pm7 an7 cd7 ct7), sl7⟩)
    (c7 : PySem.W.codeIn K cd7 "need_state" = true)
    (k7 : PySem.W.keepIn K (.ref f7) = true)
    (a8 : PySem.W.nsIn K mainGlobals "need_row" = some (some (.ref f8)))
    (l8 : K.lookup f8 = some ⟨oc8, od8, .func (PySem.W.fnOf "need_row" "need_row" (defArgs s_need_row) (defBody s_need_row) (defScope s_need_row) .none kV8 dc8 pm8 an8 cd8 ct8), sl8⟩)
    (c8 : PySem.W.codeIn K cd8 "need_row" = true)
    (k8 : PySem.W.keepIn K (.ref f8) = true)
    (a9 : PySem.W.nsIn K mainGlobals "need_few_states" = some (some (.ref f9)))
    (l9 : K.lookup f9 = some ⟨oc9, od9, .func (PySem.W.fnOf "need_few_states" "need_few_states" (defArgs s_need_few_states) (defBody s_need_few_states) (defScope s_need_few_states) .none kV9 dc9 pm9 an9 cd9 ct9), sl9⟩)
    (c9 : PySem.W.codeIn K cd9 "need_few_states" = true)
    (k9 : PySem.W.keepIn K (.ref f9) = true)
    (a10 : PySem.W.nsIn K mainGlobals "all_states" = some (some (.ref f10)))
    (l10 : K.lookup f10 = some ⟨oc10, od10, .func (PySem.W.fnOf "all_states" "all_states" (defArgs s_all_states) (defBody s_all_states) (defScope s_all_states) .none kV10 dc10 pm10 an10 cd10 ct10), sl10⟩)
    (c10 : PySem.W.codeIn K cd10 "all_states" = true)
    (k10 : PySem.W.keepIn K (.ref f10) = true)
    (a11 : PySem.W.nsIn K mainGlobals "rounded" = some (some (.ref f11)))
    (l11 : K.lookup f11 = some ⟨oc11, od11, .func (PySem.W.fnOf "rounded" "rounded" (defArgs s_rounded) (defBody s_rounded) (defScope s_rounded) .none kV11 dc11 pm11 an11 cd11 ct11), sl11⟩)
    (c11 : PySem.W.codeIn K cd11 "rounded" = true)
    (k11 : PySem.W.keepIn K (.ref f11) = true)
    (a12 : PySem.W.nsIn K mainGlobals "limited" = some (some (.ref f12)))
    (l12 : K.lookup f12 = some ⟨oc12, od12, .func (PySem.W.fnOf "limited" "limited" (defArgs s_limited) (defBody s_limited) (defScope s_limited) .none kV12 dc12 pm12 an12 cd12 ct12), sl12⟩)
    (c12 : PySem.W.codeIn K cd12 "limited" = true)
    (k12 : PySem.W.keepIn K (.ref f12) = true)
    (a13 : PySem.W.nsIn K mainGlobals "change_at" = some (some (.ref f13)))
    (l13 : K.lookup f13 = some ⟨oc13, od13, .func (PySem.W.fnOf "change_at" "change_at" (defArgs s_change_at) (defBody s_change_at) (defScope s_change_at) .none kV13 dc13 pm13 an13 cd13 ct13), sl13⟩)
    (c13 : PySem.W.codeIn K cd13 "change_at" = true)
    (k13 : PySem.W.keepIn K (.ref f13) = true)
    (a14 : PySem.W.nsIn K mainGlobals "faded" = some (some (.ref f14)))
    (l14 : K.lookup f14 = some ⟨oc14, od14, .func (PySem.W.fnOf "faded" "faded" (defArgs s_faded) (defBody s_faded) (defScope s_faded) .none kV14 dc14 pm14 an14 cd14 ct14), sl14⟩)
    (c14 : PySem.W.codeIn K cd14 "faded" = true)
    (k14 : PySem.W.keepIn K (.ref f14) = true)
    (a15 : PySem.W.nsIn K mainGlobals "state_behind" = some (some (.ref f15)))
    (l15 : K.lookup f15 = some ⟨oc15, od15, .func (PySem.W.fnOf "state_behind" "state_behind" (defArgs s_state_behind) (defBody s_state_behind) (defScope s_state_behind) .none kV15 dc15 pm15 an15 cd15 ct15), sl15⟩)
    (c15 : PySem.W.codeIn K cd15 "state_behind" = true)
    (k15 : PySem.W.keepIn K (.ref f15) = true)
    (a16 : PySem.W.nsIn K mainGlobals "state_behind_row" = some (some (.ref f16)))
    (l16 : K.lookup f16 = some ⟨oc16, od16, .func (PySem.W.fnOf "state_behind_row" "state_behind_row" (defArgs s_state_behind_row) (defBody s_state_behind_row) (defScope s_state_behind_row) .none kV16 dc16 pm16 an16 cd16 ct16), sl16⟩)
    (c16 : PySem.W.codeIn K cd16 "state_behind_row" = true)
    (k16 : PySem.W.keepIn K (.ref f16) = true)
    (a17 : PySem.W.nsIn K mainGlobals "samples_along" = some (some (.ref f17)))
    (l17 : K.lookup f17 = some ⟨oc17, od17, .func (PySem.W.fnOf "samples_along" "samples_along" (defArgs s_samples_along) (defBody s_samples_along) (defScope s_samples_along) .none kV17 dc17 pm17 an17 cd17 ct17), sl17⟩)
    (c17 : PySem.W.codeIn K cd17 "samples_along" = true)
    (k17 : PySem.W.keepIn K (.ref f17) = true)
    (a18 : PySem.W.nsIn K mainGlobals "need_coder" = some (some (.ref f18)))
    (l18 : K.lookup f18 = some ⟨oc18, od18, .func (PySem.W.fnOf "need_coder" "need_coder" (defArgs s_need_coder) (defBody s_need_coder) (defScope s_need_coder) .none kV18 dc18 pm18 an18 cd18 ct18), sl18⟩)
    (c18 : PySem.W.codeIn K cd18 "need_coder" = true)
    (k18 : PySem.W.keepIn K (.ref f18) = true)
    (a19 : PySem.W.nsIn K mainGlobals "_first_fault" = some (some (.ref f19)))
    (l19 : K.lookup f19 = some ⟨oc19, od19, .func (PySem.W.fnOf "_first_fault" "_first_fault" (defArgs s_first_fault) (defBody s_first_fault) (defScope s_first_fault) .none kV19 dc19 pm19 an19 cd19 ct19), sl19⟩)
    (c19 : PySem.W.codeIn K cd19 "_first_fault" = true)
    (k19 : PySem.W.keepIn K (.ref f19) = true)
    (a20 : PySem.W.nsIn K mainGlobals "_fault_of_steps" = some (some (.ref f20)))
    (l20 : K.lookup f20 = some ⟨oc20, od20, .func (PySem.W.fnOf "_fault_of_steps" "_fault_of_steps" (defArgs s_fault_of_steps) (defBody s_fault_of_steps) (defScope s_fault_of_steps) .none kV20 dc20 pm20 an20 cd20 ct20), sl20⟩)
    (c20 : PySem.W.codeIn K cd20 "_fault_of_steps" = true)
    (k20 : PySem.W.keepIn K (.ref f20) = true)
    (a21 : PySem.W.nsIn K mainGlobals "_fault_of_moves" = some (some (.ref f21)))
    (l21 : K.lookup f21 = some ⟨oc21, od21, .func (PySem.W.fnOf "_fault_of_moves" "_fault_of_moves" (defArgs s_fault_of_moves) (defBody s_fault_of_moves) (defScope s_fault_of_moves) .none kV21 dc21 pm21 an21 cd21 ct21), sl21⟩)
    (c21 : PySem.W.codeIn K cd21 "_fault_of_moves" = true)
    (k21 : PySem.W.keepIn K (.ref f21) = true)
    (a22 : PySem.W.nsIn K mainGlobals "_is_tuple_of" = some (some (.ref f22)))
    (l22 : K.lookup f22 = some ⟨oc22, od22, .func (PySem.W.fnOf "_is_tuple_of" "_is_tuple_of" (defArgs s_is_tuple_of) (defBody s_is_tuple_of) (defScope s_is_tuple_of) .none kV22 dc22 pm22 an22 cd22 ct22), sl22⟩)
    (c22 : PySem.W.codeIn K cd22 "_is_tuple_of" = true)
    (k22 : PySem.W.keepIn K (.ref f22) = true)
    (a23 : PySem.W.nsIn K mainGlobals "_is_move" = some (some (.ref f23)))
    (l23 : K.lookup f23 = some ⟨oc23, od23, .func (PySem.W.fnOf "_is_move" "_is_move" (defArgs s_is_move) (defBody s_is_move) (defScope s_is_move) .none kV23 dc23 pm23 an23 cd23 ct23), sl23⟩)
    (c23 : PySem.W.codeIn K cd23 "_is_move" = true)
    (k23 : PySem.W.keepIn K (.ref f23) = true)
    (a24 : PySem.W.nsIn K mainGlobals "_is_fade" = some (some (.ref f24)))
    (l24 : K.lookup f24 = some ⟨oc24, od24, .func (PySem.W.fnOf "_is_fade" "_is_fade" (defArgs s_is_fade) (defBody s_is_fade) (defScope s_is_fade) .none kV24 dc24 pm24 an24 cd24 ct24), sl24⟩)
    (c24 : PySem.W.codeIn K cd24 "_is_fade" = true)
    (k24 : PySem.W.keepIn K (.ref f24) = true)
    (a25 : PySem.W.nsIn K mainGlobals "row_along" = some (some (.ref f25)))
    (l25 : K.lookup f25 = some ⟨oc25, od25, .func (PySem.W.fnOf "row_along" "row_along" (defArgs s_row_along) (defBody s_row_along) (defScope s_row_along) .none kV25 dc25 pm25 an25 cd25 ct25), sl25⟩)
    (c25 : PySem.W.codeIn K cd25 "row_along" = true)
    (k25 : PySem.W.keepIn K (.ref f25) = true)
    (a26 : PySem.W.nsIn K mainGlobals "row_into" = some (some (.ref f26)))
    (l26 : K.lookup f26 = some ⟨oc26, od26, .func (PySem.W.fnOf "row_into" "row_into" (defArgs s_row_into) (defBody s_row_into) (defScope s_row_into) .none kV26 dc26 pm26 an26 cd26 ct26), sl26⟩)
    (c26 : PySem.W.codeIn K cd26 "row_into" = true)
    (k26 : PySem.W.keepIn K (.ref f26) = true)
    (a27 : PySem.W.nsIn K mainGlobals "seam_between" = some (some (.ref f27)))
    (l27 : K.lookup f27 = some ⟨oc27, od27, .func (PySem.W.fnOf "seam_between" "seam_between" (defArgs s_seam_between) (defBody s_seam_between) (defScope s_seam_between) .none kV27 dc27 pm27 an27 cd27 ct27), sl27⟩)
    (c27 : PySem.W.codeIn K cd27 "seam_between" = true)
    (k27 : PySem.W.keepIn K (.ref f27) = true)
    (a28 : PySem.W.nsIn K mainGlobals "_states_alike" = some (some (.ref f28)))
    (l28 : K.lookup f28 = some ⟨oc28, od28, .func (PySem.W.fnOf "_states_alike" "_states_alike" (defArgs s_states_alike) (defBody s_states_alike) (defScope s_states_alike) .none kV28 dc28 pm28 an28 cd28 ct28), sl28⟩)
    (c28 : PySem.W.codeIn K cd28 "_states_alike" = true)
    (k28 : PySem.W.keepIn K (.ref f28) = true)
    (a29 : PySem.W.nsIn K mainGlobals "_need_few_codes" = some (some (.ref f29)))
    (l29 : K.lookup f29 = some ⟨oc29, od29, .func (PySem.W.fnOf "_need_few_codes" "_need_few_codes" (defArgs s_need_few_codes) (defBody s_need_few_codes) (defScope s_need_few_codes) .none kV29 dc29 pm29 an29 cd29 ct29), sl29⟩)
    (c29 : PySem.W.codeIn K cd29 "_need_few_codes" = true)
    (k29 : PySem.W.keepIn K (.ref f29) = true)
    (a30 : PySem.W.nsIn K mainGlobals "_need_repeats" = some (some (.ref f30)))
    (l30 : K.lookup f30 = some ⟨oc30, od30, .func (PySem.W.fnOf "_need_repeats" "_need_repeats" (defArgs s_need_repeats) (defBody s_need_repeats) (defScope s_need_repeats) .none kV30 dc30 pm30 an30 cd30 ct30), sl30⟩)
    (c30 : PySem.W.codeIn K cd30 "_need_repeats" = true)
    (k30 : PySem.W.keepIn K (.ref f30) = true)
    (a31 : PySem.W.nsIn K mainGlobals "edit_of" = some (some (.ref f31)))
    (l31 : K.lookup f31 = some ⟨oc31, od31, .func (PySem.W.fnOf "edit_of" "edit_of" (defArgs s_edit_of) (defBody s_edit_of) (defScope s_edit_of) .none kV31 dc31 pm31 an31 cd31 ct31), sl31⟩)
    (c31 : PySem.W.codeIn K cd31 "edit_of" = true)
    (k31 : PySem.W.keepIn K (.ref f31) = true)
    (a32 : PySem.W.nsIn K mainGlobals "edited" = some (some (.ref f32)))
    (l32 : K.lookup f32 = some ⟨oc32, od32, .func (PySem.W.fnOf "edited" "edited" (defArgs s_edited) (defBody s_edited) (defScope s_edited) .none kV32 dc32 pm32 an32 cd32 ct32), sl32⟩)
    (c32 : PySem.W.codeIn K cd32 "edited" = true)
    (k32 : PySem.W.keepIn K (.ref f32) = true)
    (a33 : PySem.W.nsIn K mainGlobals "opposite_of" = some (some (.ref f33)))
    (l33 : K.lookup f33 = some ⟨oc33, od33, .func (PySem.W.fnOf "opposite_of" "opposite_of" (defArgs s_opposite_of) (defBody s_opposite_of) (defScope s_opposite_of) .none kV33 dc33 pm33 an33 cd33 ct33), sl33⟩)
    (c33 : PySem.W.codeIn K cd33 "opposite_of" = true)
    (k33 : PySem.W.keepIn K (.ref f33) = true)
    (a34 : PySem.W.nsIn K mainGlobals "report_of" = some (some (.ref f34)))
    (l34 : K.lookup f34 = some ⟨oc34, od34, .func (PySem.W.fnOf "report_of" "report_of" (defArgs s_report_of) (defBody s_report_of) (defScope s_report_of) .none kV34 dc34 pm34 an34 cd34 ct34), sl34⟩)
    (c34 : PySem.W.codeIn K cd34 "report_of" = true)
    (k34 : PySem.W.keepIn K (.ref f34) = true)
    (a35 : PySem.W.nsIn K mainGlobals "_many_alike" = some (some (.ref f35)))
    (l35 : K.lookup f35 = some ⟨oc35, od35, .func (PySem.W.fnOf "_many_alike" "_many_alike" (defArgs s_many_alike) (defBody s_many_alike) (defScope s_many_alike) .none kV35 dc35 pm35 an35 cd35 ct35), sl35⟩)
    (c35 : PySem.W.codeIn K cd35 "_many_alike" = true)
    (k35 : PySem.W.keepIn K (.ref f35) = true)
    (a36 : PySem.W.nsIn K mainGlobals "_need_step" = some (some (.ref f36)))
    (l36 : K.lookup f36 = some ⟨oc36, od36, .func (PySem.W.fnOf "_need_step" "_need_step" (defArgs s_need_step) (defBody s_need_step) (defScope s_need_step) .none kV36 dc36 pm36 an36 cd36 ct36), sl36⟩)
    (c36 : PySem.W.codeIn K cd36 "_need_step" = true)
    (k36 : PySem.W.keepIn K (.ref f36) = true)
    (a37 : PySem.W.nsIn K mainGlobals "_can_be_done" = some (some (.ref f37)))
    (l37 : K.lookup f37 = some ⟨oc37, od37, .func (PySem.W.fnOf "_can_be_done" "_can_be_done" (defArgs s_can_be_done) (defBody s_can_be_done) (defScope s_can_be_done) .none kV37 dc37 pm37 an37 cd37 ct37), sl37⟩)
    (c37 : PySem.W.codeIn K cd37 "_can_be_done" = true)
    (k37 : PySem.W.keepIn K (.ref f37) = true)
    (a38 : PySem.W.nsIn K mainGlobals "_law_begun" = some (some (.ref f38)))
    (l38 : K.lookup f38 = some ⟨oc38, od38, .func (PySem.W.fnOf "_law_begun" "_law_begun" (defArgs s_law_begun) (defBody s_law_begun) (defScope s_law_begun) .none kV38 dc38 pm38 an38 cd38 ct38), sl38⟩)
    (c38 : PySem.W.codeIn K cd38 "_law_begun" = true)
    (k38 : PySem.W.keepIn K (.ref f38) = true)
    (a39 : PySem.W.nsIn K mainGlobals "_law_next" = some (some (.ref f39)))
    (l39 : K.lookup f39 = some ⟨oc39, od39, .func (PySem.W.fnOf "_law_next" "_law_next" (defArgs s_law_next) (defBody s_law_next) (defScope s_law_next) .none kV39 dc39 pm39 an39 cd39 ct39), sl39⟩)
    (c39 : PySem.W.codeIn K cd39 "_law_next" = true)
    (k39 : PySem.W.keepIn K (.ref f39) = true)
    (a40 : PySem.W.nsIn K mainGlobals "_law_coder" = some (some (.ref f40)))
    (l40 : K.lookup f40 = some ⟨oc40, od40, .func (PySem.W.fnOf "_law_coder" "_law_coder" (defArgs s_law_coder) (defBody s_law_coder) (defScope s_law_coder) .none kV40 dc40 pm40 an40 cd40 ct40), sl40⟩)
    (c40 : PySem.W.codeIn K cd40 "_law_coder" = true)
    (k40 : PySem.W.keepIn K (.ref f40) = true)
    (a41 : PySem.W.nsIn K mainGlobals "_law_parted" = some (some (.ref f41)))
    (l41 : K.lookup f41 = some ⟨oc41, od41, .func (PySem.W.fnOf "_law_parted" "_law_parted" (defArgs s_law_parted) (defBody s_law_parted) (defScope s_law_parted) .none kV41 dc41 pm41 an41 cd41 ct41), sl41⟩)
    (c41 : PySem.W.codeIn K cd41 "_law_parted" = true)
    (k41 : PySem.W.keepIn K (.ref f41) = true)
    (a42 : PySem.W.nsIn K mainGlobals "_law_limited" = some (some (.ref f42)))
    (l42 : K.lookup f42 = some ⟨oc42, od42, .func (PySem.W.fnOf "_law_limited" "_law_limited" (defArgs s_law_limited) (defBody s_law_limited) (defScope s_law_limited) .none kV42 dc42 pm42 an42 cd42 ct42), sl42⟩)
    (c42 : PySem.W.codeIn K cd42 "_law_limited" = true)
    (k42 : PySem.W.keepIn K (.ref f42) = true)
    (a43 : PySem.W.nsIn K mainGlobals "_law_led" = some (some (.ref f43)))
    (l43 : K.lookup f43 = some ⟨oc43, od43, .func (PySem.W.fnOf "_law_led" "_law_led" (defArgs s_law_led) (defBody s_law_led) (defScope s_law_led) .none kV43 dc43 pm43 an43 cd43 ct43), sl43⟩)
    (c43 : PySem.W.codeIn K cd43 "_law_led" = true)
    (k43 : PySem.W.keepIn K (.ref f43) = true)
    (a44 : PySem.W.nsIn K mainGlobals "_law_walked" = some (some (.ref f44)))
    (l44 : K.lookup f44 = some ⟨oc44, od44, .func (PySem.W.fnOf "_law_walked" "_law_walked" (defArgs s_law_walked) (defBody s_law_walked) (defScope s_law_walked) .none kV44 dc44 pm44 an44 cd44 ct44), sl44⟩)
    (c44 : PySem.W.codeIn K cd44 "_law_walked" = true)
    (k44 : PySem.W.keepIn K (.ref f44) = true)
    (a45 : PySem.W.nsIn K mainGlobals "_law_some_state" = some (some (.ref f45)))
    (l45 : K.lookup f45 = some ⟨oc45, od45, .func (PySem.W.fnOf "_law_some_state" "_law_some_state" (defArgs s_law_some_state) (defBody s_law_some_state) (defScope s_law_some_state) .none kV45 dc45 pm45 an45 cd45 ct45), sl45⟩)
    (c45 : PySem.W.codeIn K cd45 "_law_some_state" = true)
    (k45 : PySem.W.keepIn K (.ref f45) = true)
    (a46 : PySem.W.nsIn K mainGlobals "_law_row" = some (some (.ref f46)))
    (l46 : K.lookup f46 = some ⟨oc46, od46, .func (PySem.W.fnOf "_law_row" "_law_row" (defArgs s_law_row) (defBody s_law_row) (defScope s_law_row) .none kV46 dc46 pm46 an46 cd46 ct46), sl46⟩)
    (c46 : PySem.W.codeIn K cd46 "_law_row" = true)
    (k46 : PySem.W.keepIn K (.ref f46) = true)
    (a47 : PySem.W.nsIn K mainGlobals "_law_fault" = some (some (.ref f47)))
    (l47 : K.lookup f47 = some ⟨oc47, od47, .func (PySem.W.fnOf "_law_fault" "_law_fault" (defArgs s_law_fault) (defBody s_law_fault) (defScope s_law_fault) .none kV47 dc47 pm47 an47 cd47 ct47), sl47⟩)
    (c47 : PySem.W.codeIn K cd47 "_law_fault" = true)
    (k47 : PySem.W.keepIn K (.ref f47) = true)
    (a48 : PySem.W.nsIn K mainGlobals "_law_outcome" = some (some (.ref f48)))
    (l48 : K.lookup f48 = some ⟨oc48, od48, .func (PySem.W.fnOf "_law_outcome" "_law_outcome" (defArgs s_law_outcome) (defBody s_law_outcome) (defScope s_law_outcome) .none kV48 dc48 pm48 an48 cd48 ct48), sl48⟩)
    (c48 : PySem.W.codeIn K cd48 "_law_outcome" = true)
    (k48 : PySem.W.keepIn K (.ref f48) = true)
    (a49 : PySem.W.nsIn K mainGlobals "_law_step" = some (some (.ref f49)))
    (l49 : K.lookup f49 = some ⟨oc49, od49, .func (PySem.W.fnOf "_law_step" "_law_step" (defArgs s_law_step) (defBody s_law_step) (defScope s_law_step) .none kV49 dc49 pm49 an49 cd49 ct49), sl49⟩)
    (c49 : PySem.W.codeIn K cd49 "_law_step" = true)
    (k49 : PySem.W.keepIn K (.ref f49) = true)
    (a50 : PySem.W.nsIn K mainGlobals "_law_done" = some (some (.ref f50)))
    (l50 : K.lookup f50 = some ⟨oc50, od50, .func (PySem.W.fnOf "_law_done" "_law_done" (defArgs s_law_done) (defBody s_law_done) (defScope s_law_done) .none kV50 dc50 pm50 an50 cd50 ct50), sl50⟩)
    (c50 : PySem.W.codeIn K cd50 "_law_done" = true)
    (k50 : PySem.W.keepIn K (.ref f50) = true)
    (a51 : PySem.W.nsIn K mainGlobals "_law_sound" = some (some (.ref f51)))
    (l51 : K.lookup f51 = some ⟨oc51, od51, .func (PySem.W.fnOf "_law_sound" "_law_sound" (defArgs s_law_sound) (defBody s_law_sound) (defScope s_law_sound) .none kV51 dc51 pm51 an51 cd51 ct51), sl51⟩)
    (c51 : PySem.W.codeIn K cd51 "_law_sound" = true)
    (k51 : PySem.W.keepIn K (.ref f51) = true)
    (a52 : PySem.W.nsIn K mainGlobals "_law_report" = some (some (.ref f52)))
    (l52 : K.lookup f52 = some ⟨oc52, od52, .func (PySem.W.fnOf "_law_report" "_law_report" (defArgs s_law_report) (defBody s_law_report) (defScope s_law_report) .none kV52 dc52 pm52 an52 cd52 ct52), sl52⟩)
    (c52 : PySem.W.codeIn K cd52 "_law_report" = true)
    (k52 : PySem.W.keepIn K (.ref f52) = true)
    (a53 : PySem.W.nsIn K mainGlobals "_law_stands" = some (some (.ref f53)))
    (l53 : K.lookup f53 = some ⟨oc53, od53, .func (PySem.W.fnOf "_law_stands" "_law_stands" (defArgs s_law_stands) (defBody s_law_stands) (defScope s_law_stands) .none kV53 dc53 pm53 an53 cd53 ct53), sl53⟩)
    (c53 : PySem.W.codeIn K cd53 "_law_stands" = true)
    (k53 : PySem.W.keepIn K (.ref f53) = true)
    (a54 : PySem.W.nsIn K mainGlobals "_law_odd_step" = some (some (.ref f54)))
    (l54 : K.lookup f54 = some ⟨oc54, od54, .func (PySem.W.fnOf "_law_odd_step" "_law_odd_step" (defArgs s_law_odd_step) (defBody s_law_odd_step) (defScope s_law_odd_step) .none kV54 dc54 pm54 an54 cd54 ct54), sl54⟩)
    (c54 : PySem.W.codeIn K cd54 "_law_odd_step" = true)
    (k54 : PySem.W.keepIn K (.ref f54) = true)
    (a55 : PySem.W.nsIn K mainGlobals "_law_some_steps" = some (some (.ref f55)))
    (l55 : K.lookup f55 = some ⟨oc55, od55, .func (PySem.W.fnOf "_law_some_steps" "_law_some_steps" (defArgs s_law_some_steps) (defBody s_law_some_steps) (defScope s_law_some_steps) .none kV55 dc55 pm55 an55 cd55 ct55), sl55⟩)
    (c55 : PySem.W.codeIn K cd55 "_law_some_steps" = true)
    (k55 : PySem.W.keepIn K (.ref f55) = true)
    (a56 : PySem.W.nsIn K mainGlobals "_law_none_right" = some (some (.ref f56)))
    (l56 : K.lookup f56 = some ⟨oc56, od56, .func (PySem.W.fnOf "_law_none_right" "_law_none_right" (defArgs s_law_none_right) (defBody s_law_none_right) (defScope s_law_none_right) .none kV56 dc56 pm56 an56 (.ref cL56) ct56), sl56⟩)
    (c56 : PySem.W.codeIn K (.ref cL56) "_law_none_right" = true)
    (k56 : PySem.W.keepIn K (.ref f56) = true)
    (lL56 : K.lookup cL56 = some ⟨eL56, ddL56, .fields vsL56, slL56⟩)
    (vL56 : (vsL56[11]? : Option Value) = some (.ref PL56))
    (hL56 : PySem.W.codeHdIn K cL56 PL56 = true)
    (nL56 : K.lookup PL56 = none)
    (a57 : PySem.W.nsIn K mainGlobals "law" = some (some (.ref f57)))
    (l57 : K.lookup f57 = some ⟨oc57, od57, .func (PySem.W.fnOf "law" "law" (defArgs s_law) (defBody s_law) (defScope s_law) .none kV57 dc57 pm57 an57 (.ref cL57) ct57), sl57⟩)
    (c57 : PySem.W.codeIn K (.ref cL57) "law" = true)
    (k57 : PySem.W.keepIn K (.ref f57) = true)
    (lL57 : K.lookup cL57 = some ⟨eL57, ddL57, .fields vsL57, slL57⟩)
    (vL57 : (vsL57[11]? : Option Value) = some (.ref PL57))
    (hL57 : PySem.W.codeHdIn K cL57 PL57 = true)
    (nL57 : K.lookup PL57 = none)
    (aO0 : PySem.W.nsIn K mainGlobals "Clip" = some (some (.ref CO0)))
    (pgO0 : PySem.W.plainGet K CO0 Str.empty = true)
    (hdO0 : PySem.W.hasDictIn K CO0 = true)
    (poO0 : PySem.W.plainOver K CO0 = true)
    (saO0 : PySem.W.findIn K (.ref CO0) "__setattr__" = some (some (.builtin "object.__setattr__")))
    (mkO0 : PySem.W.makesIn K CO0 = true)
    (kcO0 : PySem.W.keepIn K (.ref CO0) = true)
    (sf0 : PySem.W.selfFirst K CO0 = true)
    (xa0 : PySem.W.findIn K (.ref CO0) "__class__" = some (some (.builtin "object.__class__")))
    (xm0 : PySem.W.mroIn K CO0 (.type "object") = some true)
    (xi0 : PySem.W.isClsIn K CO0 = true)
    (xt0 : PySem.W.typeIn K (.ref CO0) = some (.type "type"))
    (xs0NoneType : PySem.W.subIn K (.type "NoneType") (.ref CO0) = some false)
    (xs0bool : PySem.W.subIn K (.type "bool") (.ref CO0) = some false)
    (xs0int : PySem.W.subIn K (.type "int") (.ref CO0) = some false)
    (xs0str : PySem.W.subIn K (.type "str") (.ref CO0) = some false)
    (xs0list : PySem.W.subIn K (.type "list") (.ref CO0) = some false)
    (xs0tuple : PySem.W.subIn K (.type "tuple") (.ref CO0) = some false)
    (xs0dict : PySem.W.subIn K (.type "dict") (.ref CO0) = some false)
    (xn0 : PySem.W.specialIn K (.builtin "object.__class__") "__get__" = some (some (.builtin "getset_descriptor.__get__")))
    (xk0 : PySem.W.takesIn K (.builtin "object.__class__") = some true)
    (xe0 : PySem.W.findIn K (.ref CO0) "__ne__" = some (some (.builtin "object.__ne__")))
    (nO0_coder : PySem.W.findIn K (.ref CO0) "_coder" = some none)
    (nO0_codes : PySem.W.findIn K (.ref CO0) "_codes" = some none)
    (nO0_state : PySem.W.findIn K (.ref CO0) "_state" = some none)
    (a58 : PySem.W.findIn K (.ref CO0) "__init__" = some (some (.ref f58)))
    (i58 : PySem.W.isFn K (.ref f58) = true)
    (l58 : K.lookup f58 = some ⟨oc58, od58, .func (PySem.W.fnOf "__init__" "Clip.__init__" (defArgs s_Clip_init) (defBody s_Clip_init) (defScope s_Clip_init) (.ref TD58) (.ref D58) dc58 pm58 an58 cd58 ct58), sl58⟩)
    (c58 : PySem.W.codeIn K cd58 "Clip.__init__" = true)
    (k58 : PySem.W.keepIn K (.ref f58) = true)
    (n58 : PySem.W.nsIn K D58 "state" = some (some (.ref q58)))
    (t58 : K.lookup q58 = some ⟨.type "tuple", dd58, .seq #[.int 0 tq58, .int 0 tr58] nq58, sq58⟩)
    (e58 : K.lookup TD58 = some ⟨.type "tuple", de58, .seq #[.ref qe58] ne58, se58⟩)
    (z58 : K.lookup qe58 = some ⟨.type "tuple", dz58, .seq #[] nz58, sz58⟩)
    (a59 : PySem.W.findIn K (.ref CO0) "coder" = some (some (.ref p59)))
    (gt59 : PySem.W.specialIn K (.ref p59) "__get__" = some (some (.builtin "property.__get__")))
    (tk59 : PySem.W.takesIn K (.ref p59) = some true)
    (rc59 : PySem.W.recIn K p59 "property" = some (.ref f59 :: rest59))
    (l59 : K.lookup f59 = some ⟨oc59, od59, .func (PySem.W.fnOf "coder" "Clip.coder" (defArgs s_Clip_coder) (defBody s_Clip_coder) (defScope s_Clip_coder) .none kV59 dc59 pm59 an59 cd59 ct59), sl59⟩)
    (c59 : PySem.W.codeIn K cd59 "Clip.coder" = true)
    (k59 : PySem.W.keepIn K (.ref f59) = true)
    (a60 : PySem.W.findIn K (.ref CO0) "codes" = some (some (.ref p60)))
    (gt60 : PySem.W.specialIn K (.ref p60) "__get__" = some (some (.builtin "property.__get__")))
    (tk60 : PySem.W.takesIn K (.ref p60) = some true)
    (rc60 : PySem.W.recIn K p60 "property" = some (.ref f60 :: rest60))
    (l60 : K.lookup f60 = some ⟨oc60, od60, .func (PySem.W.fnOf "codes" "Clip.codes" (defArgs s_Clip_codes) (defBody s_Clip_codes) (defScope s_Clip_codes) .none kV60 dc60 pm60 an60 cd60 ct60), sl60⟩)
    (c60 : PySem.W.codeIn K cd60 "Clip.codes" = true)
    (k60 : PySem.W.keepIn K (.ref f60) = true)
    (a61 : PySem.W.findIn K (.ref CO0) "state" = some (some (.ref p61)))
    (gt61 : PySem.W.specialIn K (.ref p61) "__get__" = some (some (.builtin "property.__get__")))
    (tk61 : PySem.W.takesIn K (.ref p61) = some true)
    (rc61 : PySem.W.recIn K p61 "property" = some (.ref f61 :: rest61))
    (l61 : K.lookup f61 = some ⟨oc61, od61, .func (PySem.W.fnOf "state" "Clip.state" (defArgs s_Clip_state) (defBody s_Clip_state) (defScope s_Clip_state) .none kV61 dc61 pm61 an61 cd61 ct61), sl61⟩)
    (c61 : PySem.W.codeIn K cd61 "Clip.state" = true)
    (k61 : PySem.W.keepIn K (.ref f61) = true)
    (a62 : PySem.W.findIn K (.ref CO0) "heard" = some (some (.ref f62)))
    (i62 : PySem.W.isFn K (.ref f62) = true)
    (l62 : K.lookup f62 = some ⟨oc62, od62, .func (PySem.W.fnOf "heard" "Clip.heard" (defArgs s_Clip_heard) (defBody s_Clip_heard) (defScope s_Clip_heard) .none kV62 dc62 pm62 an62 cd62 ct62), sl62⟩)
    (c62 : PySem.W.codeIn K cd62 "Clip.heard" = true)
    (k62 : PySem.W.keepIn K (.ref f62) = true)
    (a63 : PySem.W.findIn K (.ref CO0) "last" = some (some (.ref f63)))
    (i63 : PySem.W.isFn K (.ref f63) = true)
    (l63 : K.lookup f63 = some ⟨oc63, od63, .func (PySem.W.fnOf "last" "Clip.last" (defArgs s_Clip_last) (defBody s_Clip_last) (defScope s_Clip_last) .none kV63 dc63 pm63 an63 cd63 ct63), sl63⟩)
    (c63 : PySem.W.codeIn K cd63 "Clip.last" = true)
    (k63 : PySem.W.keepIn K (.ref f63) = true)
    (a64 : PySem.W.findIn K (.ref CO0) "stretch" = some (some (.ref f64)))
    (i64 : PySem.W.isFn K (.ref f64) = true)
    (l64 : K.lookup f64 = some ⟨oc64, od64, .func (PySem.W.fnOf "stretch" "Clip.stretch" (defArgs s_Clip_stretch) (defBody s_Clip_stretch) (defScope s_Clip_stretch) .none kV64 dc64 pm64 an64 cd64 ct64), sl64⟩)
    (c64 : PySem.W.codeIn K cd64 "Clip.stretch" = true)
    (k64 : PySem.W.keepIn K (.ref f64) = true)
    (a65 : PySem.W.findIn K (.ref CO0) "copy" = some (some (.ref f65)))
    (i65 : PySem.W.isFn K (.ref f65) = true)
    (l65 : K.lookup f65 = some ⟨oc65, od65, .func (PySem.W.fnOf "copy" "Clip.copy" (defArgs s_Clip_copy) (defBody s_Clip_copy) (defScope s_Clip_copy) .none kV65 dc65 pm65 an65 cd65 ct65), sl65⟩)
    (c65 : PySem.W.codeIn K cd65 "Clip.copy" = true)
    (k65 : PySem.W.keepIn K (.ref f65) = true)
    (a66 : PySem.W.findIn K (.ref CO0) "begins" = some (some (.ref f66)))
    (i66 : PySem.W.isFn K (.ref f66) = true)
    (l66 : K.lookup f66 = some ⟨oc66, od66, .func (PySem.W.fnOf "begins" "Clip.begins" (defArgs s_Clip_begins) (defBody s_Clip_begins) (defScope s_Clip_begins) .none kV66 dc66 pm66 an66 cd66 ct66), sl66⟩)
    (c66 : PySem.W.codeIn K cd66 "Clip.begins" = true)
    (k66 : PySem.W.keepIn K (.ref f66) = true)
    (a67 : PySem.W.findIn K (.ref CO0) "__len__" = some (some (.ref f67)))
    (i67 : PySem.W.isFn K (.ref f67) = true)
    (l67 : K.lookup f67 = some ⟨oc67, od67, .func (PySem.W.fnOf "__len__" "Clip.__len__" (defArgs s_Clip_len) (defBody s_Clip_len) (defScope s_Clip_len) .none kV67 dc67 pm67 an67 cd67 ct67), sl67⟩)
    (c67 : PySem.W.codeIn K cd67 "Clip.__len__" = true)
    (k67 : PySem.W.keepIn K (.ref f67) = true)
    (a68 : PySem.W.findIn K (.ref CO0) "__eq__" = some (some (.ref f68)))
    (i68 : PySem.W.isFn K (.ref f68) = true)
    (l68 : K.lookup f68 = some ⟨oc68, od68, .func (PySem.W.fnOf "__eq__" "Clip.__eq__" (defArgs s_Clip_eq) (defBody s_Clip_eq) (defScope s_Clip_eq) .none kV68 dc68 pm68 an68 cd68 ct68), sl68⟩)
    (c68 : PySem.W.codeIn K cd68 "Clip.__eq__" = true)
    (k68 : PySem.W.keepIn K (.ref f68) = true)
    (a69 : PySem.W.findIn K (.ref CO0) "__contains__" = some (some (.ref f69)))
    (i69 : PySem.W.isFn K (.ref f69) = true)
    (l69 : K.lookup f69 = some ⟨oc69, od69, .func (PySem.W.fnOf "__contains__" "Clip.__contains__" (defArgs s_Clip_contains) (defBody s_Clip_contains) (defScope s_Clip_contains) .none kV69 dc69 pm69 an69 cd69 ct69), sl69⟩)
    (c69 : PySem.W.codeIn K cd69 "Clip.__contains__" = true)
    (k69 : PySem.W.keepIn K (.ref f69) = true)
    (a70 : PySem.W.findIn K (.ref CO0) "__add__" = some (some (.ref f70)))
    (i70 : PySem.W.isFn K (.ref f70) = true)
    (l70 : K.lookup f70 = some ⟨oc70, od70, .func (PySem.W.fnOf "__add__" "Clip.__add__" (defArgs s_Clip_add) (defBody s_Clip_add) (defScope s_Clip_add) .none kV70 dc70 pm70 an70 cd70 ct70), sl70⟩)
    (c70 : PySem.W.codeIn K cd70 "Clip.__add__" = true)
    (k70 : PySem.W.keepIn K (.ref f70) = true)
    (a71 : PySem.W.findIn K (.ref CO0) "__mul__" = some (some (.ref f71)))
    (i71 : PySem.W.isFn K (.ref f71) = true)
    (l71 : K.lookup f71 = some ⟨oc71, od71, .func (PySem.W.fnOf "__mul__" "Clip.__mul__" (defArgs s_Clip_mul) (defBody s_Clip_mul) (defScope s_Clip_mul) .none kV71 dc71 pm71 an71 cd71 ct71), sl71⟩)
    (c71 : PySem.W.codeIn K cd71 "Clip.__mul__" = true)
    (k71 : PySem.W.keepIn K (.ref f71) = true)
    (a72 : PySem.W.findIn K (.ref CO0) "__rmul__" = some (some (.ref f72)))
    (i72 : PySem.W.isFn K (.ref f72) = true)
    (l72 : K.lookup f72 = some ⟨oc72, od72, .func (PySem.W.fnOf "__rmul__" "Clip.__rmul__" (defArgs s_Clip_rmul) (defBody s_Clip_rmul) (defScope s_Clip_rmul) .none kV72 dc72 pm72 an72 cd72 ct72), sl72⟩)
    (c72 : PySem.W.codeIn K cd72 "Clip.__rmul__" = true)
    (k72 : PySem.W.keepIn K (.ref f72) = true)
    (a73 : PySem.W.findIn K (.ref CO0) "__iadd__" = some (some (.ref f73)))
    (i73 : PySem.W.isFn K (.ref f73) = true)
    (l73 : K.lookup f73 = some ⟨oc73, od73, .func (PySem.W.fnOf "__iadd__" "Clip.__iadd__" (defArgs s_Clip_iadd) (defBody s_Clip_iadd) (defScope s_Clip_iadd) .none kV73 dc73 pm73 an73 cd73 ct73), sl73⟩)
    (c73 : PySem.W.codeIn K cd73 "Clip.__iadd__" = true)
    (k73 : PySem.W.keepIn K (.ref f73) = true)
    (aO1 : PySem.W.nsIn K mainGlobals "Desk" = some (some (.ref CO1)))
    (pgO1 : PySem.W.plainGet K CO1 Str.empty = true)
    (hdO1 : PySem.W.hasDictIn K CO1 = true)
    (poO1 : PySem.W.plainOver K CO1 = true)
    (saO1 : PySem.W.findIn K (.ref CO1) "__setattr__" = some (some (.builtin "object.__setattr__")))
    (mkO1 : PySem.W.makesIn K CO1 = true)
    (kcO1 : PySem.W.keepIn K (.ref CO1) = true)
    (xa1 : PySem.W.findIn K (.ref CO1) "__class__" = some (some (.builtin "object.__class__")))
    (xm1 : PySem.W.mroIn K CO1 (.type "object") = some true)
    (xi1 : PySem.W.isClsIn K CO1 = true)
    (xt1 : PySem.W.typeIn K (.ref CO1) = some (.type "type"))
    (xs1NoneType : PySem.W.subIn K (.type "NoneType") (.ref CO1) = some false)
    (xs1bool : PySem.W.subIn K (.type "bool") (.ref CO1) = some false)
    (xs1int : PySem.W.subIn K (.type "int") (.ref CO1) = some false)
    (xs1str : PySem.W.subIn K (.type "str") (.ref CO1) = some false)
    (xs1list : PySem.W.subIn K (.type "list") (.ref CO1) = some false)
    (xs1tuple : PySem.W.subIn K (.type "tuple") (.ref CO1) = some false)
    (xs1dict : PySem.W.subIn K (.type "dict") (.ref CO1) = some false)
    (xn1 : PySem.W.specialIn K (.builtin "object.__class__") "__get__" = some (some (.builtin "getset_descriptor.__get__")))
    (xk1 : PySem.W.takesIn K (.builtin "object.__class__") = some true)
    (sDD1 : PySem.W.subIn K (.ref CO1) (.ref CO1) = some true)
    (sDC1 : PySem.W.subIn K (.ref CO1) (.ref CO0) = some false)
    (sDl1 : PySem.W.subIn K (.ref CO1) (.type "list") = some false)
    (sDt1 : PySem.W.subIn K (.ref CO1) (.type "tuple") = some false)
    (nO1_first : PySem.W.findIn K (.ref CO1) "_first" = some none)
    (nO1_codes : PySem.W.findIn K (.ref CO1) "_codes" = some none)
    (nO1_state : PySem.W.findIn K (.ref CO1) "_state" = some none)
    (nO1_done : PySem.W.findIn K (.ref CO1) "_done" = some none)
    (nO1_undone : PySem.W.findIn K (.ref CO1) "_undone" = some none)
    (nO1_tries : PySem.W.findIn K (.ref CO1) "_tries" = some none)
    (a74 : PySem.W.findIn K (.ref CO1) "__init__" = some (some (.ref f74)))
    (i74 : PySem.W.isFn K (.ref f74) = true)
    (l74 : K.lookup f74 = some ⟨oc74, od74, .func (PySem.W.fnOf "__init__" "Desk.__init__" (defArgs s_Desk_init) (defBody s_Desk_init) (defScope s_Desk_init) .none kV74 dc74 pm74 an74 cd74 ct74), sl74⟩)
    (c74 : PySem.W.codeIn K cd74 "Desk.__init__" = true)
    (k74 : PySem.W.keepIn K (.ref f74) = true)
    (a75 : PySem.W.findIn K (.ref CO1) "do" = some (some (.ref f75)))
    (i75 : PySem.W.isFn K (.ref f75) = true)
    (l75 : K.lookup f75 = some ⟨oc75, od75, .func (PySem.W.fnOf "do" "Desk.do" (defArgs s_Desk_do) (defBody s_Desk_do) (defScope s_Desk_do) .none kV75 dc75 pm75 an75 cd75 ct75), sl75⟩)
    (c75 : PySem.W.codeIn K cd75 "Desk.do" = true)
    (k75 : PySem.W.keepIn K (.ref f75) = true)
    (a76 : PySem.W.findIn K (.ref CO1) "do_all" = some (some (.ref f76)))
    (i76 : PySem.W.isFn K (.ref f76) = true)
    (l76 : K.lookup f76 = some ⟨oc76, od76, .func (PySem.W.fnOf "do_all" "Desk.do_all" (defArgs s_Desk_do_all) (defBody s_Desk_do_all) (defScope s_Desk_do_all) .none kV76 dc76 pm76 an76 cd76 ct76), sl76⟩)
    (c76 : PySem.W.codeIn K cd76 "Desk.do_all" = true)
    (k76 : PySem.W.keepIn K (.ref f76) = true)
    (a77 : PySem.W.findIn K (.ref CO1) "undo" = some (some (.ref f77)))
    (i77 : PySem.W.isFn K (.ref f77) = true)
    (l77 : K.lookup f77 = some ⟨oc77, od77, .func (PySem.W.fnOf "undo" "Desk.undo" (defArgs s_Desk_undo) (defBody s_Desk_undo) (defScope s_Desk_undo) .none kV77 dc77 pm77 an77 cd77 ct77), sl77⟩)
    (c77 : PySem.W.codeIn K cd77 "Desk.undo" = true)
    (k77 : PySem.W.keepIn K (.ref f77) = true)
    (a78 : PySem.W.findIn K (.ref CO1) "redo" = some (some (.ref f78)))
    (i78 : PySem.W.isFn K (.ref f78) = true)
    (l78 : K.lookup f78 = some ⟨oc78, od78, .func (PySem.W.fnOf "redo" "Desk.redo" (defArgs s_Desk_redo) (defBody s_Desk_redo) (defScope s_Desk_redo) .none kV78 dc78 pm78 an78 cd78 ct78), sl78⟩)
    (c78 : PySem.W.codeIn K cd78 "Desk.redo" = true)
    (k78 : PySem.W.keepIn K (.ref f78) = true)
    (a79 : PySem.W.findIn K (.ref CO1) "clip" = some (some (.ref f79)))
    (i79 : PySem.W.isFn K (.ref f79) = true)
    (l79 : K.lookup f79 = some ⟨oc79, od79, .func (PySem.W.fnOf "clip" "Desk.clip" (defArgs s_Desk_clip) (defBody s_Desk_clip) (defScope s_Desk_clip) .none kV79 dc79 pm79 an79 cd79 ct79), sl79⟩)
    (c79 : PySem.W.codeIn K cd79 "Desk.clip" = true)
    (k79 : PySem.W.keepIn K (.ref f79) = true)
    (a80 : PySem.W.findIn K (.ref CO1) "heard" = some (some (.ref f80)))
    (i80 : PySem.W.isFn K (.ref f80) = true)
    (l80 : K.lookup f80 = some ⟨oc80, od80, .func (PySem.W.fnOf "heard" "Desk.heard" (defArgs s_Desk_heard) (defBody s_Desk_heard) (defScope s_Desk_heard) .none kV80 dc80 pm80 an80 cd80 ct80), sl80⟩)
    (c80 : PySem.W.codeIn K cd80 "Desk.heard" = true)
    (k80 : PySem.W.keepIn K (.ref f80) = true)
    (a81 : PySem.W.findIn K (.ref CO1) "steps" = some (some (.ref f81)))
    (i81 : PySem.W.isFn K (.ref f81) = true)
    (l81 : K.lookup f81 = some ⟨oc81, od81, .func (PySem.W.fnOf "steps" "Desk.steps" (defArgs s_Desk_steps) (defBody s_Desk_steps) (defScope s_Desk_steps) .none kV81 dc81 pm81 an81 cd81 ct81), sl81⟩)
    (c81 : PySem.W.codeIn K cd81 "Desk.steps" = true)
    (k81 : PySem.W.keepIn K (.ref f81) = true)
    (a82 : PySem.W.findIn K (.ref CO1) "tries" = some (some (.ref f82)))
    (i82 : PySem.W.isFn K (.ref f82) = true)
    (l82 : K.lookup f82 = some ⟨oc82, od82, .func (PySem.W.fnOf "tries" "Desk.tries" (defArgs s_Desk_tries) (defBody s_Desk_tries) (defScope s_Desk_tries) .none kV82 dc82 pm82 an82 cd82 ct82), sl82⟩)
    (c82 : PySem.W.codeIn K cd82 "Desk.tries" = true)
    (k82 : PySem.W.keepIn K (.ref f82) = true)
    (a83 : PySem.W.findIn K (.ref CO1) "copy" = some (some (.ref f83)))
    (i83 : PySem.W.isFn K (.ref f83) = true)
    (l83 : K.lookup f83 = some ⟨oc83, od83, .func (PySem.W.fnOf "copy" "Desk.copy" (defArgs s_Desk_copy) (defBody s_Desk_copy) (defScope s_Desk_copy) .none kV83 dc83 pm83 an83 cd83 ct83), sl83⟩)
    (c83 : PySem.W.codeIn K cd83 "Desk.copy" = true)
    (k83 : PySem.W.keepIn K (.ref f83) = true)
    (a84 : PySem.W.findIn K (.ref CO1) "__len__" = some (some (.ref f84)))
    (i84 : PySem.W.isFn K (.ref f84) = true)
    (l84 : K.lookup f84 = some ⟨oc84, od84, .func (PySem.W.fnOf "__len__" "Desk.__len__" (defArgs s_Desk_len) (defBody s_Desk_len) (defScope s_Desk_len) .none kV84 dc84 pm84 an84 cd84 ct84), sl84⟩)
    (c84 : PySem.W.codeIn K cd84 "Desk.__len__" = true)
    (k84 : PySem.W.keepIn K (.ref f84) = true)
    (a85 : PySem.W.findIn K (.ref CO1) "__eq__" = some (some (.ref f85)))
    (i85 : PySem.W.isFn K (.ref f85) = true)
    (l85 : K.lookup f85 = some ⟨oc85, od85, .func (PySem.W.fnOf "__eq__" "Desk.__eq__" (defArgs s_Desk_eq) (defBody s_Desk_eq) (defScope s_Desk_eq) .none kV85 dc85 pm85 an85 cd85 ct85), sl85⟩)
    (c85 : PySem.W.codeIn K cd85 "Desk.__eq__" = true)
    (k85 : PySem.W.keepIn K (.ref f85) = true)
    (a86 : PySem.W.findIn K (.ref CO1) "_do_each" = some (some (.ref f86)))
    (i86 : PySem.W.isFn K (.ref f86) = true)
    (l86 : K.lookup f86 = some ⟨oc86, od86, .func (PySem.W.fnOf "_do_each" "Desk._do_each" (defArgs s_Desk_do_each) (defBody s_Desk_do_each) (defScope s_Desk_do_each) .none kV86 dc86 pm86 an86 cd86 ct86), sl86⟩)
    (c86 : PySem.W.codeIn K cd86 "Desk._do_each" = true)
    (k86 : PySem.W.keepIn K (.ref f86) = true)
    (a87 : PySem.W.findIn K (.ref CO1) "_follow" = some (some (.ref f87)))
    (i87 : PySem.W.isFn K (.ref f87) = true)
    (l87 : K.lookup f87 = some ⟨oc87, od87, .func (PySem.W.fnOf "_follow" "Desk._follow" (defArgs s_Desk_follow) (defBody s_Desk_follow) (defScope s_Desk_follow) .none kV87 dc87 pm87 an87 cd87 ct87), sl87⟩)
    (c87 : PySem.W.codeIn K cd87 "Desk._follow" = true)
    (k87 : PySem.W.keepIn K (.ref f87) = true)
    (nP56x57 : PL56 ≠ PL57)
    (z_bool : PySem.W.nsIn K mainGlobals "bool" = some none)
    (z_enumerate : PySem.W.nsIn K mainGlobals "enumerate" = some none)
    (z_int : PySem.W.nsIn K mainGlobals "int" = some none)
    (z_isinstance : PySem.W.nsIn K mainGlobals "isinstance" = some none)
    (z_len : PySem.W.nsIn K mainGlobals "len" = some none)
    (z_list : PySem.W.nsIn K mainGlobals "list" = some none)
    (z_max : PySem.W.nsIn K mainGlobals "max" = some none)
    (z_min : PySem.W.nsIn K mainGlobals "min" = some none)
    (z_range : PySem.W.nsIn K mainGlobals "range" = some none)
    (z_repr : PySem.W.nsIn K mainGlobals "repr" = some none)
    (z_str : PySem.W.nsIn K mainGlobals "str" = some none)
    (z_tuple : PySem.W.nsIn K mainGlobals "tuple" = some none)
    (aC0 : PySem.W.nsIn K mainGlobals "BadCoder" = some (some (.ref C0)))
    (xC0 : K.lookup C0 = some (excClassObj nmC0 qC0 C0 N0 bsC0 [.type "ValueError", .type "Exception", .type "BaseException", .type "object"] true snC0 subC0 abC0 colC0 ddC0 m0C0 m1C0 m2C0 m3C0 m5C0 "ValueError.__new__"))
    (saC0 : PySem.W.findIn K (.ref C0) "__setattr__" = some (some (.builtin "object.__setattr__")))
    (iC0 : PySem.W.findIn K (.ref C0) "__init__" = some (some (.ref g0)))
    (tI0 : PySem.W.typeIn K (.ref g0) = some (.type "function"))
    (lC0 : K.lookup g0 = some ⟨ocC0, odC0, .func (PySem.W.fnOf "__init__" "BadCoder.__init__" (defArgs si_BadCoder) (defBody si_BadCoder) (defScope si_BadCoder) .none kVC0 dcC0 pmC0 anC0 cdC0 ctC0), slC0⟩)
    (cC0 : PySem.W.codeIn K cdC0 "BadCoder.__init__" = true)
    (kI0 : PySem.W.keepIn K (.ref g0) = true)
    (kC0 : PySem.W.keepIn K (.ref C0) = true)
    (eC0 : PySem.W.subIn K (.ref C0) (.type "BaseException") = some true)
    (tC0 : PySem.W.typeIn K (.ref C0) = some (.type "type"))
    (isC0 : PySem.W.isClsIn K C0 = true)
    (sC0 : PySem.W.subIn K (.ref C0) (.ref C0) = some true)
    (gaC0 : PySem.W.findIn K (.ref C0) "__getattribute__" = some (some (.builtin "BaseException.__getattribute__")))
    (ggC0 : PySem.W.findIn K (.ref C0) "__getattr__" = some none)
    (hdC0 : PySem.W.hasDictIn K C0 = true)
    (nC0part : PySem.W.findIn K (.ref C0) "part" = some none)
    (nC0number : PySem.W.findIn K (.ref C0) "number" = some none)
    (haC0 : PySem.W.findIn K (.ref C0) "__class__" = some (some (.builtin "object.__class__")))
    (hmC0 : PySem.W.mroIn K C0 (.type "object") = some true)
    (aC1 : PySem.W.nsIn K mainGlobals "BadRow" = some (some (.ref C1)))
    (xC1 : K.lookup C1 = some (excClassObj nmC1 qC1 C1 N1 bsC1 [.type "ValueError", .type "Exception", .type "BaseException", .type "object"] true snC1 subC1 abC1 colC1 ddC1 m0C1 m1C1 m2C1 m3C1 m5C1 "ValueError.__new__"))
    (saC1 : PySem.W.findIn K (.ref C1) "__setattr__" = some (some (.builtin "object.__setattr__")))
    (iC1 : PySem.W.findIn K (.ref C1) "__init__" = some (some (.ref g1)))
    (tI1 : PySem.W.typeIn K (.ref g1) = some (.type "function"))
    (lC1 : K.lookup g1 = some ⟨ocC1, odC1, .func (PySem.W.fnOf "__init__" "BadRow.__init__" (defArgs si_BadRow) (defBody si_BadRow) (defScope si_BadRow) .none kVC1 dcC1 pmC1 anC1 cdC1 ctC1), slC1⟩)
    (cC1 : PySem.W.codeIn K cdC1 "BadRow.__init__" = true)
    (kI1 : PySem.W.keepIn K (.ref g1) = true)
    (kC1 : PySem.W.keepIn K (.ref C1) = true)
    (eC1 : PySem.W.subIn K (.ref C1) (.type "BaseException") = some true)
    (tC1 : PySem.W.typeIn K (.ref C1) = some (.type "type"))
    (isC1 : PySem.W.isClsIn K C1 = true)
    (sC1 : PySem.W.subIn K (.ref C1) (.ref C1) = some true)
    (gaC1 : PySem.W.findIn K (.ref C1) "__getattribute__" = some (some (.builtin "BaseException.__getattribute__")))
    (ggC1 : PySem.W.findIn K (.ref C1) "__getattr__" = some none)
    (hdC1 : PySem.W.hasDictIn K C1 = true)
    (nC1row : PySem.W.findIn K (.ref C1) "row" = some none)
    (nC1word : PySem.W.findIn K (.ref C1) "word" = some none)
    (haC1 : PySem.W.findIn K (.ref C1) "__class__" = some (some (.builtin "object.__class__")))
    (hmC1 : PySem.W.mroIn K C1 (.type "object") = some true)
    (aC2 : PySem.W.nsIn K mainGlobals "TooGreat" = some (some (.ref C2)))
    (xC2 : K.lookup C2 = some (excClassObj nmC2 qC2 C2 N2 bsC2 oeTail true snC2 subC2 abC2 colC2 ddC2 m0C2 m1C2 m2C2 m3C2 m5C2 "OverflowError.__new__"))
    (saC2 : PySem.W.findIn K (.ref C2) "__setattr__" = some (some (.builtin "object.__setattr__")))
    (iC2 : PySem.W.findIn K (.ref C2) "__init__" = some (some (.ref g2)))
    (tI2 : PySem.W.typeIn K (.ref g2) = some (.type "function"))
    (lC2 : K.lookup g2 = some ⟨ocC2, odC2, .func (PySem.W.fnOf "__init__" "TooGreat.__init__" (defArgs si_TooGreat) (defBody si_TooGreat) (defScope si_TooGreat) .none kVC2 dcC2 pmC2 anC2 cdC2 ctC2), slC2⟩)
    (cC2 : PySem.W.codeIn K cdC2 "TooGreat.__init__" = true)
    (kI2 : PySem.W.keepIn K (.ref g2) = true)
    (kC2 : PySem.W.keepIn K (.ref C2) = true)
    (eC2 : PySem.W.subIn K (.ref C2) (.type "BaseException") = some true)
    (tC2 : PySem.W.typeIn K (.ref C2) = some (.type "type"))
    (isC2 : PySem.W.isClsIn K C2 = true)
    (sC2 : PySem.W.subIn K (.ref C2) (.ref C2) = some true)
    (gaC2 : PySem.W.findIn K (.ref C2) "__getattribute__" = some (some (.builtin "BaseException.__getattribute__")))
    (ggC2 : PySem.W.findIn K (.ref C2) "__getattr__" = some none)
    (hdC2 : PySem.W.hasDictIn K C2 = true)
    (nC2most : PySem.W.findIn K (.ref C2) "most" = some none)
    (haC2 : PySem.W.findIn K (.ref C2) "__class__" = some (some (.builtin "object.__class__")))
    (hmC2 : PySem.W.mroIn K C2 (.type "object") = some true)
    (aC3 : PySem.W.nsIn K mainGlobals "OutOfPlace" = some (some (.ref C3)))
    (xC3 : K.lookup C3 = some (excClassObj nmC3 qC3 C3 N3 bsC3 [.type "ValueError", .type "Exception", .type "BaseException", .type "object"] true snC3 subC3 abC3 colC3 ddC3 m0C3 m1C3 m2C3 m3C3 m5C3 "ValueError.__new__"))
    (saC3 : PySem.W.findIn K (.ref C3) "__setattr__" = some (some (.builtin "object.__setattr__")))
    (iC3 : PySem.W.findIn K (.ref C3) "__init__" = some (some (.ref g3)))
    (tI3 : PySem.W.typeIn K (.ref g3) = some (.type "function"))
    (lC3 : K.lookup g3 = some ⟨ocC3, odC3, .func (PySem.W.fnOf "__init__" "OutOfPlace.__init__" (defArgs si_OutOfPlace) (defBody si_OutOfPlace) (defScope si_OutOfPlace) .none kVC3 dcC3 pmC3 anC3 cdC3 ctC3), slC3⟩)
    (cC3 : PySem.W.codeIn K cdC3 "OutOfPlace.__init__" = true)
    (kI3 : PySem.W.keepIn K (.ref g3) = true)
    (kC3 : PySem.W.keepIn K (.ref C3) = true)
    (eC3 : PySem.W.subIn K (.ref C3) (.type "BaseException") = some true)
    (tC3 : PySem.W.typeIn K (.ref C3) = some (.type "type"))
    (isC3 : PySem.W.isClsIn K C3 = true)
    (sC3 : PySem.W.subIn K (.ref C3) (.ref C3) = some true)
    (gaC3 : PySem.W.findIn K (.ref C3) "__getattribute__" = some (some (.builtin "BaseException.__getattribute__")))
    (ggC3 : PySem.W.findIn K (.ref C3) "__getattr__" = some none)
    (hdC3 : PySem.W.hasDictIn K C3 = true)
    (haC3 : PySem.W.findIn K (.ref C3) "__class__" = some (some (.builtin "object.__class__")))
    (hmC3 : PySem.W.mroIn K C3 (.type "object") = some true)
    (aC4 : PySem.W.nsIn K mainGlobals "NoSeam" = some (some (.ref C4)))
    (xC4 : K.lookup C4 = some (excClassObj nmC4 qC4 C4 N4 bsC4 [.type "ValueError", .type "Exception", .type "BaseException", .type "object"] true snC4 subC4 abC4 colC4 ddC4 m0C4 m1C4 m2C4 m3C4 m5C4 "ValueError.__new__"))
    (saC4 : PySem.W.findIn K (.ref C4) "__setattr__" = some (some (.builtin "object.__setattr__")))
    (iC4 : PySem.W.findIn K (.ref C4) "__init__" = some (some (.ref g4)))
    (tI4 : PySem.W.typeIn K (.ref g4) = some (.type "function"))
    (lC4 : K.lookup g4 = some ⟨ocC4, odC4, .func (PySem.W.fnOf "__init__" "NoSeam.__init__" (defArgs si_NoSeam) (defBody si_NoSeam) (defScope si_NoSeam) .none kVC4 dcC4 pmC4 anC4 cdC4 ctC4), slC4⟩)
    (cC4 : PySem.W.codeIn K cdC4 "NoSeam.__init__" = true)
    (kI4 : PySem.W.keepIn K (.ref g4) = true)
    (kC4 : PySem.W.keepIn K (.ref C4) = true)
    (eC4 : PySem.W.subIn K (.ref C4) (.type "BaseException") = some true)
    (tC4 : PySem.W.typeIn K (.ref C4) = some (.type "type"))
    (isC4 : PySem.W.isClsIn K C4 = true)
    (sC4 : PySem.W.subIn K (.ref C4) (.ref C4) = some true)
    (gaC4 : PySem.W.findIn K (.ref C4) "__getattribute__" = some (some (.builtin "BaseException.__getattribute__")))
    (ggC4 : PySem.W.findIn K (.ref C4) "__getattr__" = some none)
    (hdC4 : PySem.W.hasDictIn K C4 = true)
    (haC4 : PySem.W.findIn K (.ref C4) "__class__" = some (some (.builtin "object.__class__")))
    (hmC4 : PySem.W.mroIn K C4 (.type "object") = some true)
    (aC5 : PySem.W.nsIn K mainGlobals "Nothing" = some (some (.ref C5)))
    (xC5 : K.lookup C5 = some (excClassObj nmC5 qC5 C5 N5 bsC5 leTail true snC5 subC5 abC5 colC5 ddC5 m0C5 m1C5 m2C5 m3C5 m5C5 "LookupError.__new__"))
    (saC5 : PySem.W.findIn K (.ref C5) "__setattr__" = some (some (.builtin "object.__setattr__")))
    (iC5 : PySem.W.findIn K (.ref C5) "__init__" = some (some (.ref g5)))
    (tI5 : PySem.W.typeIn K (.ref g5) = some (.type "function"))
    (lC5 : K.lookup g5 = some ⟨ocC5, odC5, .func (PySem.W.fnOf "__init__" "Nothing.__init__" (defArgs si_Nothing) (defBody si_Nothing) (defScope si_Nothing) .none kVC5 dcC5 pmC5 anC5 cdC5 ctC5), slC5⟩)
    (cC5 : PySem.W.codeIn K cdC5 "Nothing.__init__" = true)
    (kI5 : PySem.W.keepIn K (.ref g5) = true)
    (kC5 : PySem.W.keepIn K (.ref C5) = true)
    (eC5 : PySem.W.subIn K (.ref C5) (.type "BaseException") = some true)
    (tC5 : PySem.W.typeIn K (.ref C5) = some (.type "type"))
    (isC5 : PySem.W.isClsIn K C5 = true)
    (sC5 : PySem.W.subIn K (.ref C5) (.ref C5) = some true)
    (gaC5 : PySem.W.findIn K (.ref C5) "__getattribute__" = some (some (.builtin "BaseException.__getattribute__")))
    (ggC5 : PySem.W.findIn K (.ref C5) "__getattr__" = some none)
    (hdC5 : PySem.W.hasDictIn K C5 = true)
    (haC5 : PySem.W.findIn K (.ref C5) "__class__" = some (some (.builtin "object.__class__")))
    (hmC5 : PySem.W.mroIn K C5 (.type "object") = some true)
    (aC6 : PySem.W.nsIn K mainGlobals "BadPaper" = some (some (.ref C6)))
    (eC6 : PySem.W.subIn K (.ref C6) (.type "BaseException") = some true)
    (tC6 : PySem.W.typeIn K (.ref C6) = some (.type "type"))
    (isC6 : PySem.W.isClsIn K C6 = true)
    (aC7 : PySem.W.nsIn K mainGlobals "BadByte" = some (some (.ref C7)))
    (eC7 : PySem.W.subIn K (.ref C7) (.type "BaseException") = some true)
    (tC7 : PySem.W.typeIn K (.ref C7) = some (.type "type"))
    (isC7 : PySem.W.isClsIn K C7 = true)
    (hnO : PySem.W.specialIn K (.builtin "object.__class__") "__get__" = some (some (.builtin "getset_descriptor.__get__")))
    (htO : PySem.W.takesIn K (.builtin "object.__class__") = some true)
    (sC0x1 : PySem.W.subIn K (.ref C0) (.ref C1) = some false)
    (sC0x2 : PySem.W.subIn K (.ref C0) (.ref C2) = some false)
    (sC0x3 : PySem.W.subIn K (.ref C0) (.ref C3) = some false)
    (sC0x4 : PySem.W.subIn K (.ref C0) (.ref C4) = some false)
    (sC0x5 : PySem.W.subIn K (.ref C0) (.ref C5) = some false)
    (sC0x6 : PySem.W.subIn K (.ref C0) (.ref C6) = some false)
    (sC0x7 : PySem.W.subIn K (.ref C0) (.ref C7) = some false)
    (sC1x0 : PySem.W.subIn K (.ref C1) (.ref C0) = some false)
    (sC1x2 : PySem.W.subIn K (.ref C1) (.ref C2) = some false)
    (sC1x3 : PySem.W.subIn K (.ref C1) (.ref C3) = some false)
    (sC1x4 : PySem.W.subIn K (.ref C1) (.ref C4) = some false)
    (sC1x5 : PySem.W.subIn K (.ref C1) (.ref C5) = some false)
    (sC1x6 : PySem.W.subIn K (.ref C1) (.ref C6) = some false)
    (sC1x7 : PySem.W.subIn K (.ref C1) (.ref C7) = some false)
    (sC2x0 : PySem.W.subIn K (.ref C2) (.ref C0) = some false)
    (sC2x1 : PySem.W.subIn K (.ref C2) (.ref C1) = some false)
    (sC2x3 : PySem.W.subIn K (.ref C2) (.ref C3) = some false)
    (sC2x4 : PySem.W.subIn K (.ref C2) (.ref C4) = some false)
    (sC2x5 : PySem.W.subIn K (.ref C2) (.ref C5) = some false)
    (sC2x6 : PySem.W.subIn K (.ref C2) (.ref C6) = some false)
    (sC2x7 : PySem.W.subIn K (.ref C2) (.ref C7) = some false)
    (sC3x0 : PySem.W.subIn K (.ref C3) (.ref C0) = some false)
    (sC3x1 : PySem.W.subIn K (.ref C3) (.ref C1) = some false)
    (sC3x2 : PySem.W.subIn K (.ref C3) (.ref C2) = some false)
    (sC3x4 : PySem.W.subIn K (.ref C3) (.ref C4) = some false)
    (sC3x5 : PySem.W.subIn K (.ref C3) (.ref C5) = some false)
    (sC3x6 : PySem.W.subIn K (.ref C3) (.ref C6) = some false)
    (sC3x7 : PySem.W.subIn K (.ref C3) (.ref C7) = some false)
    (sC4x0 : PySem.W.subIn K (.ref C4) (.ref C0) = some false)
    (sC4x1 : PySem.W.subIn K (.ref C4) (.ref C1) = some false)
    (sC4x2 : PySem.W.subIn K (.ref C4) (.ref C2) = some false)
    (sC4x3 : PySem.W.subIn K (.ref C4) (.ref C3) = some false)
    (sC4x5 : PySem.W.subIn K (.ref C4) (.ref C5) = some false)
    (sC4x6 : PySem.W.subIn K (.ref C4) (.ref C6) = some false)
    (sC4x7 : PySem.W.subIn K (.ref C4) (.ref C7) = some false)
    (sC5x0 : PySem.W.subIn K (.ref C5) (.ref C0) = some false)
    (sC5x1 : PySem.W.subIn K (.ref C5) (.ref C1) = some false)
    (sC5x2 : PySem.W.subIn K (.ref C5) (.ref C2) = some false)
    (sC5x3 : PySem.W.subIn K (.ref C5) (.ref C3) = some false)
    (sC5x4 : PySem.W.subIn K (.ref C5) (.ref C4) = some false)
    (sC5x6 : PySem.W.subIn K (.ref C5) (.ref C6) = some false)
    (sC5x7 : PySem.W.subIn K (.ref C5) (.ref C7) = some false)
    (vV : PySem.W.findCls K (.type "ValueError") (.type "type") "__init__" = some (.val (.builtin "ValueError.__init__")))
    (zV : PySem.W.nsIn K mainGlobals "ValueError" = some none)
    (vL : PySem.W.findCls K (.type "LookupError") (.type "type") "__init__" = some (.val (.builtin "LookupError.__init__")))
    (zL : PySem.W.nsIn K mainGlobals "LookupError" = some none)
    (mc : PySem.W.nsIn K mainGlobals "MOST_CODES" = some (some (.int 2000 tMC)))
    (cSTEPS : PySem.W.nsIn K mainGlobals "STEPS" = some (some (.ref qSTEPS)))
    (lSTEPS : K.lookup qSTEPS = some ⟨.type "tuple", dSTEPS, .seq #[.ref qSTEPS0, .ref qSTEPS1, .ref qSTEPS2, .ref qSTEPS3] nSTEPS, sSTEPS⟩)
    (lSTEPS0 : K.lookup qSTEPS0 = some ⟨.type "tuple", dSTEPS0, .seq #[.str "put" tSTEPS0x0, .int 3 tSTEPS0x1] nSTEPS0, sSTEPS0⟩)
    (lSTEPS1 : K.lookup qSTEPS1 = some ⟨.type "tuple", dSTEPS1, .seq #[.str "set" tSTEPS1x0, .int 3 tSTEPS1x1] nSTEPS1, sSTEPS1⟩)
    (lSTEPS2 : K.lookup qSTEPS2 = some ⟨.type "tuple", dSTEPS2, .seq #[.str "cut" tSTEPS2x0, .int 3 tSTEPS2x1] nSTEPS2, sSTEPS2⟩)
    (lSTEPS3 : K.lookup qSTEPS3 = some ⟨.type "tuple", dSTEPS3, .seq #[.str "from" tSTEPS3x0, .int 2 tSTEPS3x1] nSTEPS3, sSTEPS3⟩) :
    ∃ (fd : FuncData) (cs : List (Addr × Addr)), (∀ p ∈ cs, h.get? p.2 = some (tabO #[])) ∧ (∀ p ∈ cs, K.lookup p.2 = none) ∧ (∀ p ∈ cs, PySem.W.CodeHd h p.1 p.2) ∧ (∀ (s : Shared) (v : Value), BindsTo s fd ⟨[v], []⟩ [("script", v)]) ∧ ∀ base : Heap, K.In base → base.Ns mainGlobals mg → (∀ p ∈ cs, LamX.TabB base mg p.1 p.2) → FnG l.prog w K mg base 18 fa fd ["script"] (sp_law K (cs.map (·.2))) := by
  have e := hfa.symm.trans (PySem.W.mg_of X G a57)
  cases e
  have F0 := fun_mk (st := s_wall) l0 c0 k0
  have B0 := F0.binds (ps := ["k"]) fun _ _ _ _ _ _ us hl => match us, hl with | [_], _ => rfl
  have F1 := fun_mk (st := s_is_integer) l1 c1 k1
  have B1 := F1.binds (ps := ["thing"]) fun _ _ _ _ _ _ us hl => match us, hl with | [_], _ => rfl
  have F2 := fun_mk (st := s_is_between) l2 c2 k2
  have B2 := F2.binds (ps := ["thing", "least", "most"]) fun _ _ _ _ _ _ us hl => match us, hl with | [_, _, _], _ => rfl
  have F3 := fun_mk (st := s_is_pair) l3 c3 k3
  have B3 := F3.binds (ps := ["thing"]) fun _ _ _ _ _ _ us hl => match us, hl with | [_], _ => rfl
  have F4 := fun_mk (st := s_is_code) l4 c4 k4
  have B4 := F4.binds (ps := ["coder", "thing"]) fun _ _ _ _ _ _ us hl => match us, hl with | [_, _], _ => rfl
  have F5 := fun_mk (st := s_is_place) l5 c5 k5
  have B5 := F5.binds (ps := ["coder", "thing"]) fun _ _ _ _ _ _ us hl => match us, hl with | [_, _], _ => rfl
  have F6 := fun_mk (st := s_is_state) l6 c6 k6
  have B6 := F6.binds (ps := ["coder", "thing"]) fun _ _ _ _ _ _ us hl => match us, hl with | [_, _], _ => rfl
  have F7 := fun_mk (st := s_need_state) l7 c7 k7
  have B7 := F7.binds (ps := ["coder", "thing"]) fun _ _ _ _ _ _ us hl => match us, hl with | [_, _], _ => rfl
  have F8 := fun_mk (st := s_need_row) l8 c8 k8
  have B8 := F8.binds (ps := ["coder", "thing"]) fun _ _ _ _ _ _ us hl => match us, hl with | [_, _], _ => rfl
  have F9 := fun_mk (st := s_need_few_states) l9 c9 k9
  have B9 := F9.binds (ps := ["coder", "most"]) fun _ _ _ _ _ _ us hl => match us, hl with | [_, _], _ => rfl
  have F10 := fun_mk (st := s_all_states) l10 c10 k10
  have B10 := F10.binds (ps := ["coder"]) fun _ _ _ _ _ _ us hl => match us, hl with | [_], _ => rfl
  have F11 := fun_mk (st := s_rounded) l11 c11 k11
  have B11 := F11.binds (ps := ["number", "divisor"]) fun _ _ _ _ _ _ us hl => match us, hl with | [_, _], _ => rfl
  have F12 := fun_mk (st := s_limited) l12 c12 k12
  have B12 := F12.binds (ps := ["number", "least", "most"]) fun _ _ _ _ _ _ us hl => match us, hl with | [_, _, _], _ => rfl
  have F13 := fun_mk (st := s_change_at) l13 c13 k13
  have B13 := F13.binds (ps := ["coder", "code", "place"]) fun _ _ _ _ _ _ us hl => match us, hl with | [_, _, _], _ => rfl
  have F14 := fun_mk (st := s_faded) l14 c14 k14
  have B14 := F14.binds (ps := ["level", "fade"]) fun _ _ _ _ _ _ us hl => match us, hl with | [_, _], _ => rfl
  have F15 := fun_mk (st := s_state_behind) l15 c15 k15
  have B15 := F15.binds (ps := ["coder", "state", "code"]) fun _ _ _ _ _ _ us hl => match us, hl with | [_, _, _], _ => rfl
  have F16 := fun_mk (st := s_state_behind_row) l16 c16 k16
  have B16 := F16.binds (ps := ["coder", "row", "state"]) fun _ _ _ _ _ _ us hl => match us, hl with | [_, _, _], _ => rfl
  have F17 := fun_mk (st := s_samples_along) l17 c17 k17
  have B17 := F17.binds (ps := ["coder", "row", "state"]) fun _ _ _ _ _ _ us hl => match us, hl with | [_, _, _], _ => rfl
  have F18 := fun_mk (st := s_need_coder) l18 c18 k18
  have B18 := F18.binds (ps := ["thing"]) fun _ _ _ _ _ _ us hl => match us, hl with | [_], _ => rfl
  have F19 := fun_mk (st := s_first_fault) l19 c19 k19
  have B19 := F19.binds (ps := ["thing"]) fun _ _ _ _ _ _ us hl => match us, hl with | [_], _ => rfl
  have F20 := fun_mk (st := s_fault_of_steps) l20 c20 k20
  have B20 := F20.binds (ps := ["steps"]) fun _ _ _ _ _ _ us hl => match us, hl with | [_], _ => rfl
  have F21 := fun_mk (st := s_fault_of_moves) l21 c21 k21
  have B21 := F21.binds (ps := ["moves"]) fun _ _ _ _ _ _ us hl => match us, hl with | [_], _ => rfl
  have F22 := fun_mk (st := s_is_tuple_of) l22 c22 k22
  have B22 := F22.binds (ps := ["thing", "least", "most"]) fun _ _ _ _ _ _ us hl => match us, hl with | [_, _, _], _ => rfl
  have F23 := fun_mk (st := s_is_move) l23 c23 k23
  have B23 := F23.binds (ps := ["thing"]) fun _ _ _ _ _ _ us hl => match us, hl with | [_], _ => rfl
  have F24 := fun_mk (st := s_is_fade) l24 c24 k24
  have B24 := F24.binds (ps := ["thing"]) fun _ _ _ _ _ _ us hl => match us, hl with | [_], _ => rfl
  have F25 := fun_mk (st := s_row_along) l25 c25 k25
  have B25 := F25.binds (ps := ["leaders", "thing"]) fun _ _ _ _ _ _ us hl => match us, hl with | [_, _], _ => rfl
  have F26 := fun_mk (st := s_row_into) l26 c26 k26
  have B26 := F26.binds (ps := ["coder", "one", "wanted"]) fun _ _ _ _ _ _ us hl => match us, hl with | [_, _, _], _ => rfl
  have F27 := fun_mk (st := s_seam_between) l27 c27 k27
  have B27 := F27.binds (ps := ["coder", "one", "row", "state"]) fun _ _ _ _ _ _ us hl => match us, hl with | [_, _, _, _], _ => rfl
  have F28 := fun_mk (st := s_states_alike) l28 c28 k28
  have B28 := F28.binds (ps := ["coder", "row", "state"]) fun _ _ _ _ _ _ us hl => match us, hl with | [_, _, _], _ => rfl
  have F29 := fun_mk (st := s_need_few_codes) l29 c29 k29
  have B29 := F29.binds (ps := ["many"]) fun _ _ _ _ _ _ us hl => match us, hl with | [_], _ => rfl
  have F30 := fun_mk (st := s_need_repeats) l30 c30 k30
  have B30 := F30.binds (ps := ["codes", "times"]) fun _ _ _ _ _ _ us hl => match us, hl with | [_, _], _ => rfl
  have F31 := fun_mk (st := s_edit_of) l31 c31 k31
  have B31 := F31.binds (ps := ["coder", "codes", "state", "step"]) fun _ _ _ _ _ _ us hl => match us, hl with | [_, _, _, _], _ => rfl
  have F32 := fun_mk (st := s_edited) l32 c32 k32
  have B32 := F32.binds (ps := ["codes", "edit"]) fun _ _ _ _ _ _ us hl => match us, hl with | [_, _], _ => rfl
  have F33 := fun_mk (st := s_opposite_of) l33 c33 k33
  have B33 := F33.binds (ps := ["edit"]) fun _ _ _ _ _ _ us hl => match us, hl with | [_], _ => rfl
  have F34 := fun_mk (st := s_report_of) l34 c34 k34
  have B34 := F34.binds (ps := ["before", "after"]) fun _ _ _ _ _ _ us hl => match us, hl with | [_, _], _ => rfl
  have F35 := fun_mk (st := s_many_alike) l35 c35 k35
  have B35 := F35.binds (ps := ["one", "other", "most"]) fun _ _ _ _ _ _ us hl => match us, hl with | [_, _, _], _ => rfl
  have F36 := fun_mk (st := s_need_step) l36 c36 k36
  have B36 := F36.binds (ps := ["coder", "codes", "thing"]) fun _ _ _ _ _ _ us hl => match us, hl with | [_, _, _], _ => rfl
  have F37 := fun_mk (st := s_can_be_done) l37 c37 k37
  have B37 := F37.binds (ps := ["coder", "codes", "step"]) fun _ _ _ _ _ _ us hl => match us, hl with | [_, _, _], _ => rfl
  have F38 := fun_mk (st := s_law_begun) l38 c38 k38
  have B38 := F38.binds (ps := ["script"]) fun _ _ _ _ _ _ us hl => match us, hl with | [_], _ => rfl
  have F39 := fun_mk (st := s_law_next) l39 c39 k39
  have B39 := F39.binds (ps := ["m", "many"]) fun _ _ _ _ _ _ us hl => match us, hl with | [_, _], _ => rfl
  have F40 := fun_mk (st := s_law_coder) l40 c40 k40
  have B40 := F40.binds (ps := ["m", "wide", "places", "codes"]) fun _ _ _ _ _ _ us hl => match us, hl with | [_, _, _, _], _ => rfl
  have F41 := fun_mk (st := s_law_parted) l41 c41 k41
  have B41 := F41.binds (ps := ["number", "by"]) fun _ _ _ _ _ _ us hl => match us, hl with | [_, _], _ => rfl
  have F42 := fun_mk (st := s_law_limited) l42 c42 k42
  have B42 := F42.binds (ps := ["number", "least", "most"]) fun _ _ _ _ _ _ us hl => match us, hl with | [_, _, _], _ => rfl
  have F43 := fun_mk (st := s_law_led) l43 c43 k43
  have B43 := F43.binds (ps := ["coder", "here", "code"]) fun _ _ _ _ _ _ us hl => match us, hl with | [_, _, _], _ => rfl
  have F44 := fun_mk (st := s_law_walked) l44 c44 k44
  have B44 := F44.binds (ps := ["coder", "here", "row"]) fun _ _ _ _ _ _ us hl => match us, hl with | [_, _, _], _ => rfl
  have F45 := fun_mk (st := s_law_some_state) l45 c45 k45
  have B45 := F45.binds (ps := ["m", "coder"]) fun _ _ _ _ _ _ us hl => match us, hl with | [_, _], _ => rfl
  have F46 := fun_mk (st := s_law_row) l46 c46 k46
  have B46 := F46.binds (ps := ["m", "coder", "many"]) fun _ _ _ _ _ _ us hl => match us, hl with | [_, _, _], _ => rfl
  have F47 := fun_mk (st := s_law_fault) l47 c47 k47
  have B47 := F47.binds (ps := ["e"]) fun _ _ _ _ _ _ us hl => match us, hl with | [_], _ => rfl
  have F48 := fun_mk (st := s_law_outcome) l48 c48 k48
  have B48 := F48.binds (ps := ["deed"]) fun _ _ _ _ _ _ us hl => match us, hl with | [_], _ => rfl
  have F49 := fun_mk (st := s_law_step) l49 c49 k49
  have B49 := F49.binds (ps := ["m", "coder", "row"]) fun _ _ _ _ _ _ us hl => match us, hl with | [_, _, _], _ => rfl
  have F50 := fun_mk (st := s_law_done) l50 c50 k50
  have B50 := F50.binds (ps := ["pair", "step"]) fun _ _ _ _ _ _ us hl => match us, hl with | [_, _], _ => rfl
  have F51 := fun_mk (st := s_law_sound) l51 c51 k51
  have B51 := F51.binds (ps := ["coder", "pair"]) fun _ _ _ _ _ _ us hl => match us, hl with | [_, _], _ => rfl
  have F52 := fun_mk (st := s_law_report) l52 c52 k52
  have B52 := F52.binds (ps := ["coder", "pair", "other"]) fun _ _ _ _ _ _ us hl => match us, hl with | [_, _, _], _ => rfl
  have F53 := fun_mk (st := s_law_stands) l53 c53 k53
  have B53 := F53.binds (ps := ["desk", "coder", "pair", "steps", "tries"]) fun _ _ _ _ _ _ us hl => match us, hl with | [_, _, _, _, _], _ => rfl
  have F54 := fun_mk (st := s_law_odd_step) l54 c54 k54
  have B54 := F54.binds (ps := ["m", "coder", "row"]) fun _ _ _ _ _ _ us hl => match us, hl with | [_, _, _], _ => rfl
  have F55 := fun_mk (st := s_law_some_steps) l55 c55 k55
  have B55 := F55.binds (ps := ["m", "coder", "pair"]) fun _ _ _ _ _ _ us hl => match us, hl with | [_, _, _], _ => rfl
  have F56 := fun_mk (st := s_law_none_right) l56 c56 k56
  have B56 := F56.binds (ps := ["m", "desk", "coder", "pair", "tries"]) fun _ _ _ _ _ _ us hl => match us, hl with | [_, _, _, _, _], _ => rfl
  have F57 := fun_mk (st := s_law) l57 c57 k57
  have B57 := F57.binds (ps := ["script"]) fun _ _ _ _ _ _ us hl => match us, hl with | [_], _ => rfl
  have F58 : FunD K "__init__" "Clip.__init__" (defArgs s_Clip_init) (defBody s_Clip_init) (defScope s_Clip_init) [V.ref qe58] [("state", V.ref q58)] f58 _ := ⟨⟨_, _, .ref TD58, .ref D58, _, _, _, _, _, _, rfl, l58, c58, .inr ⟨by simp, TD58, _, [.ref qe58], _, rfl, e58, rfl, .cons rfl .nil⟩, .inr ⟨D58, rfl, fun p hp => by rw [List.mem_singleton.mp hp]; exact ⟨.ref q58, n58, rfl⟩⟩⟩, k58⟩
  obtain ⟨_, _, KB58⟩ := F58.kbinds (ps := ["self", "coder", "codes", "state"]) 3 ["state"] [] (fun us _ _ ws => us ++ ws) (by simp) (by simp) (by simp) (fun r _ _ rz => r.append rz) (fun T D doc pm an cdv ct us its mv ws hl hi hm hk => match us, hl, its, hi, mv, hm, ws, hk with | [_, _, _], _, [_], _, [], _, [_], _ => ⟨_, rfl, rfl⟩)
  obtain ⟨e58, ev58, B58⟩ := F58.binds (ps := ["self", "coder", "codes", "state"]) 3 1 (by simp) rfl (fun T D doc pm an cdv ct us its ks hl hi hk => match us, hl, its, hi, ks, hk with | [_, _, _], _, [_], _, [_], _ => ⟨_, rfl, _, _, _, _, _, _, rfl, rfl, rfl⟩) (by simp)
  obtain ⟨eb58, evb58, BB58⟩ := F58.binds (ps := ["self", "coder", "codes", "state"]) 2 0 (by simp) rfl (fun T D doc pm an cdv ct us its ks hl hi hk => match us, hl, its, hi, ks, hk with | [_, _], _, [_], _, [_], _ => ⟨_, rfl, _, _, _, _, _, _, rfl, rfl, rfl⟩) (by simp)
  have F59 := fun_mk (st := s_Clip_coder) l59 c59 k59
  have B59 := F59.binds (ps := ["self"]) fun _ _ _ _ _ _ us hl => match us, hl with | [_], _ => rfl
  have F60 := fun_mk (st := s_Clip_codes) l60 c60 k60
  have B60 := F60.binds (ps := ["self"]) fun _ _ _ _ _ _ us hl => match us, hl with | [_], _ => rfl
  have F61 := fun_mk (st := s_Clip_state) l61 c61 k61
  have B61 := F61.binds (ps := ["self"]) fun _ _ _ _ _ _ us hl => match us, hl with | [_], _ => rfl
  have F62 := fun_mk (st := s_Clip_heard) l62 c62 k62
  have B62 := F62.binds (ps := ["self"]) fun _ _ _ _ _ _ us hl => match us, hl with | [_], _ => rfl
  have F63 := fun_mk (st := s_Clip_last) l63 c63 k63
  have B63 := F63.binds (ps := ["self"]) fun _ _ _ _ _ _ us hl => match us, hl with | [_], _ => rfl
  have F64 := fun_mk (st := s_Clip_stretch) l64 c64 k64
  have B64 := F64.binds (ps := ["self", "begin", "end"]) fun _ _ _ _ _ _ us hl => match us, hl with | [_, _, _], _ => rfl
  have F65 := fun_mk (st := s_Clip_copy) l65 c65 k65
  have B65 := F65.binds (ps := ["self"]) fun _ _ _ _ _ _ us hl => match us, hl with | [_], _ => rfl
  have F66 := fun_mk (st := s_Clip_begins) l66 c66 k66
  have B66 := F66.binds (ps := ["self", "other"]) fun _ _ _ _ _ _ us hl => match us, hl with | [_, _], _ => rfl
  have F67 := fun_mk (st := s_Clip_len) l67 c67 k67
  have B67 := F67.binds (ps := ["self"]) fun _ _ _ _ _ _ us hl => match us, hl with | [_], _ => rfl
  have F68 := fun_mk (st := s_Clip_eq) l68 c68 k68
  have B68 := F68.binds (ps := ["self", "other"]) fun _ _ _ _ _ _ us hl => match us, hl with | [_, _], _ => rfl
  have F69 := fun_mk (st := s_Clip_contains) l69 c69 k69
  have B69 := F69.binds (ps := ["self", "x"]) fun _ _ _ _ _ _ us hl => match us, hl with | [_, _], _ => rfl
  have F70 := fun_mk (st := s_Clip_add) l70 c70 k70
  have B70 := F70.binds (ps := ["self", "other"]) fun _ _ _ _ _ _ us hl => match us, hl with | [_, _], _ => rfl
  have F71 := fun_mk (st := s_Clip_mul) l71 c71 k71
  have B71 := F71.binds (ps := ["self", "other"]) fun _ _ _ _ _ _ us hl => match us, hl with | [_, _], _ => rfl
  have F72 := fun_mk (st := s_Clip_rmul) l72 c72 k72
  have B72 := F72.binds (ps := ["self", "other"]) fun _ _ _ _ _ _ us hl => match us, hl with | [_, _], _ => rfl
  have F73 := fun_mk (st := s_Clip_iadd) l73 c73 k73
  have B73 := F73.binds (ps := ["self", "other"]) fun _ _ _ _ _ _ us hl => match us, hl with | [_, _], _ => rfl
  have F74 := fun_mk (st := s_Desk_init) l74 c74 k74
  have B74 := F74.binds (ps := ["self", "clip"]) fun _ _ _ _ _ _ us hl => match us, hl with | [_, _], _ => rfl
  have F75 := fun_mk (st := s_Desk_do) l75 c75 k75
  have B75 := F75.binds (ps := ["self", "step"]) fun _ _ _ _ _ _ us hl => match us, hl with | [_, _], _ => rfl
  have F76 := fun_mk (st := s_Desk_do_all) l76 c76 k76
  have B76 := F76.binds (ps := ["self", "steps"]) fun _ _ _ _ _ _ us hl => match us, hl with | [_, _], _ => rfl
  have F77 := fun_mk (st := s_Desk_undo) l77 c77 k77
  have B77 := F77.binds (ps := ["self"]) fun _ _ _ _ _ _ us hl => match us, hl with | [_], _ => rfl
  have F78 := fun_mk (st := s_Desk_redo) l78 c78 k78
  have B78 := F78.binds (ps := ["self"]) fun _ _ _ _ _ _ us hl => match us, hl with | [_], _ => rfl
  have F79 := fun_mk (st := s_Desk_clip) l79 c79 k79
  have B79 := F79.binds (ps := ["self"]) fun _ _ _ _ _ _ us hl => match us, hl with | [_], _ => rfl
  have F80 := fun_mk (st := s_Desk_heard) l80 c80 k80
  have B80 := F80.binds (ps := ["self"]) fun _ _ _ _ _ _ us hl => match us, hl with | [_], _ => rfl
  have F81 := fun_mk (st := s_Desk_steps) l81 c81 k81
  have B81 := F81.binds (ps := ["self"]) fun _ _ _ _ _ _ us hl => match us, hl with | [_], _ => rfl
  have F82 := fun_mk (st := s_Desk_tries) l82 c82 k82
  have B82 := F82.binds (ps := ["self"]) fun _ _ _ _ _ _ us hl => match us, hl with | [_], _ => rfl
  have F83 := fun_mk (st := s_Desk_copy) l83 c83 k83
  have B83 := F83.binds (ps := ["self"]) fun _ _ _ _ _ _ us hl => match us, hl with | [_], _ => rfl
  have F84 := fun_mk (st := s_Desk_len) l84 c84 k84
  have B84 := F84.binds (ps := ["self"]) fun _ _ _ _ _ _ us hl => match us, hl with | [_], _ => rfl
  have F85 := fun_mk (st := s_Desk_eq) l85 c85 k85
  have B85 := F85.binds (ps := ["self", "other"]) fun _ _ _ _ _ _ us hl => match us, hl with | [_, _], _ => rfl
  have F86 := fun_mk (st := s_Desk_do_each) l86 c86 k86
  have B86 := F86.binds (ps := ["self", "steps"]) fun _ _ _ _ _ _ us hl => match us, hl with | [_, _], _ => rfl
  have F87 := fun_mk (st := s_Desk_follow) l87 c87 k87
  have B87 := F87.binds (ps := ["self", "edit"]) fun _ _ _ _ _ _ us hl => match us, hl with | [_, _], _ => rfl
  have FI0 := fun_mk (st := si_BadCoder) lC0 cC0 kI0
  have BI0 := FI0.binds (ps := ["self", "part", "number"]) fun _ _ _ _ _ _ us hl => match us, hl with | [_, _, _], _ => rfl
  have FI1 := fun_mk (st := si_BadRow) lC1 cC1 kI1
  have BI1 := FI1.binds (ps := ["self", "row", "word"]) fun _ _ _ _ _ _ us hl => match us, hl with | [_, _, _], _ => rfl
  have FI2 := fun_mk (st := si_TooGreat) lC2 cC2 kI2
  have BI2 := FI2.binds (ps := ["self", "most"]) fun _ _ _ _ _ _ us hl => match us, hl with | [_, _], _ => rfl
  have FI3 := fun_mk (st := si_OutOfPlace) lC3 cC3 kI3
  have BI3 := FI3.binds (ps := ["self", "text"]) fun _ _ _ _ _ _ us hl => match us, hl with | [_, _], _ => rfl
  have FI4 := fun_mk (st := si_NoSeam) lC4 cC4 kI4
  have BI4 := FI4.binds (ps := ["self", "text"]) fun _ _ _ _ _ _ us hl => match us, hl with | [_, _], _ => rfl
  have FI5 := fun_mk (st := si_Nothing) lC5 cC5 kI5
  have BI5 := FI5.binds (ps := ["self", "text"]) fun _ _ _ _ _ _ us hl => match us, hl with | [_, _], _ => rfl
  let T : Txt K mg := {
    f__wall := f0, d__wall := _, F__wall := F0, b__wall := B0, g__wall := PySem.W.mg_of X G a0,
    f_is_integer := f1, d_is_integer := _, F_is_integer := F1, b_is_integer := B1, g_is_integer := PySem.W.mg_of X G a1,
    f_is_between := f2, d_is_between := _, F_is_between := F2, b_is_between := B2, g_is_between := PySem.W.mg_of X G a2,
    f_is_pair := f3, d_is_pair := _, F_is_pair := F3, b_is_pair := B3, g_is_pair := PySem.W.mg_of X G a3,
    f_is_code := f4, d_is_code := _, F_is_code := F4, b_is_code := B4, g_is_code := PySem.W.mg_of X G a4,
    f_is_place := f5, d_is_place := _, F_is_place := F5, b_is_place := B5, g_is_place := PySem.W.mg_of X G a5,
    f_is_state := f6, d_is_state := _, F_is_state := F6, b_is_state := B6, g_is_state := PySem.W.mg_of X G a6,
    f_need_state := f7, d_need_state := _, F_need_state := F7, b_need_state := B7, g_need_state := PySem.W.mg_of X G a7,
    f_need_row := f8, d_need_row := _, F_need_row := F8, b_need_row := B8, g_need_row := PySem.W.mg_of X G a8,
    f_need_few_states := f9, d_need_few_states := _, F_need_few_states := F9, b_need_few_states := B9, g_need_few_states := PySem.W.mg_of X G a9,
    f_all_states := f10, d_all_states := _, F_all_states := F10, b_all_states := B10, g_all_states := PySem.W.mg_of X G a10,
    f_rounded := f11, d_rounded := _, F_rounded := F11, b_rounded := B11, g_rounded := PySem.W.mg_of X G a11,
    f_limited := f12, d_limited := _, F_limited := F12, b_limited := B12, g_limited := PySem.W.mg_of X G a12,
    f_change_at := f13, d_change_at := _, F_change_at := F13, b_change_at := B13, g_change_at := PySem.W.mg_of X G a13,
    f_faded := f14, d_faded := _, F_faded := F14, b_faded := B14, g_faded := PySem.W.mg_of X G a14,
    f_state_behind := f15, d_state_behind := _, F_state_behind := F15, b_state_behind := B15, g_state_behind := PySem.W.mg_of X G a15,
    f_state_behind_row := f16, d_state_behind_row := _, F_state_behind_row := F16, b_state_behind_row := B16, g_state_behind_row := PySem.W.mg_of X G a16,
    f_samples_along := f17, d_samples_along := _, F_samples_along := F17, b_samples_along := B17, g_samples_along := PySem.W.mg_of X G a17,
    f_need_coder := f18, d_need_coder := _, F_need_coder := F18, b_need_coder := B18, g_need_coder := PySem.W.mg_of X G a18,
    f__first_fault := f19, d__first_fault := _, F__first_fault := F19, b__first_fault := B19, g__first_fault := PySem.W.mg_of X G a19,
    f__fault_of_steps := f20, d__fault_of_steps := _, F__fault_of_steps := F20, b__fault_of_steps := B20, g__fault_of_steps := PySem.W.mg_of X G a20,
    f__fault_of_moves := f21, d__fault_of_moves := _, F__fault_of_moves := F21, b__fault_of_moves := B21, g__fault_of_moves := PySem.W.mg_of X G a21,
    f__is_tuple_of := f22, d__is_tuple_of := _, F__is_tuple_of := F22, b__is_tuple_of := B22, g__is_tuple_of := PySem.W.mg_of X G a22,
    f__is_move := f23, d__is_move := _, F__is_move := F23, b__is_move := B23, g__is_move := PySem.W.mg_of X G a23,
    f__is_fade := f24, d__is_fade := _, F__is_fade := F24, b__is_fade := B24, g__is_fade := PySem.W.mg_of X G a24,
    f_row_along := f25, d_row_along := _, F_row_along := F25, b_row_along := B25, g_row_along := PySem.W.mg_of X G a25,
    f_row_into := f26, d_row_into := _, F_row_into := F26, b_row_into := B26, g_row_into := PySem.W.mg_of X G a26,
    f_seam_between := f27, d_seam_between := _, F_seam_between := F27, b_seam_between := B27, g_seam_between := PySem.W.mg_of X G a27,
    f__states_alike := f28, d__states_alike := _, F__states_alike := F28, b__states_alike := B28, g__states_alike := PySem.W.mg_of X G a28,
    f__need_few_codes := f29, d__need_few_codes := _, F__need_few_codes := F29, b__need_few_codes := B29, g__need_few_codes := PySem.W.mg_of X G a29,
    f__need_repeats := f30, d__need_repeats := _, F__need_repeats := F30, b__need_repeats := B30, g__need_repeats := PySem.W.mg_of X G a30,
    f_edit_of := f31, d_edit_of := _, F_edit_of := F31, b_edit_of := B31, g_edit_of := PySem.W.mg_of X G a31,
    f_edited := f32, d_edited := _, F_edited := F32, b_edited := B32, g_edited := PySem.W.mg_of X G a32,
    f_opposite_of := f33, d_opposite_of := _, F_opposite_of := F33, b_opposite_of := B33, g_opposite_of := PySem.W.mg_of X G a33,
    f_report_of := f34, d_report_of := _, F_report_of := F34, b_report_of := B34, g_report_of := PySem.W.mg_of X G a34,
    f__many_alike := f35, d__many_alike := _, F__many_alike := F35, b__many_alike := B35, g__many_alike := PySem.W.mg_of X G a35,
    f__need_step := f36, d__need_step := _, F__need_step := F36, b__need_step := B36, g__need_step := PySem.W.mg_of X G a36,
    f__can_be_done := f37, d__can_be_done := _, F__can_be_done := F37, b__can_be_done := B37, g__can_be_done := PySem.W.mg_of X G a37,
    f__law_begun := f38, d__law_begun := _, F__law_begun := F38, b__law_begun := B38, g__law_begun := PySem.W.mg_of X G a38,
    f__law_next := f39, d__law_next := _, F__law_next := F39, b__law_next := B39, g__law_next := PySem.W.mg_of X G a39,
    f__law_coder := f40, d__law_coder := _, F__law_coder := F40, b__law_coder := B40, g__law_coder := PySem.W.mg_of X G a40,
    f__law_parted := f41, d__law_parted := _, F__law_parted := F41, b__law_parted := B41, g__law_parted := PySem.W.mg_of X G a41,
    f__law_limited := f42, d__law_limited := _, F__law_limited := F42, b__law_limited := B42, g__law_limited := PySem.W.mg_of X G a42,
    f__law_led := f43, d__law_led := _, F__law_led := F43, b__law_led := B43, g__law_led := PySem.W.mg_of X G a43,
    f__law_walked := f44, d__law_walked := _, F__law_walked := F44, b__law_walked := B44, g__law_walked := PySem.W.mg_of X G a44,
    f__law_some_state := f45, d__law_some_state := _, F__law_some_state := F45, b__law_some_state := B45, g__law_some_state := PySem.W.mg_of X G a45,
    f__law_row := f46, d__law_row := _, F__law_row := F46, b__law_row := B46, g__law_row := PySem.W.mg_of X G a46,
    f__law_fault := f47, d__law_fault := _, F__law_fault := F47, b__law_fault := B47, g__law_fault := PySem.W.mg_of X G a47,
    f__law_outcome := f48, d__law_outcome := _, F__law_outcome := F48, b__law_outcome := B48, g__law_outcome := PySem.W.mg_of X G a48,
    kp_oc := k48, lk_oc := ⟨_, _, _, _, _, _, _, _, _, _, l48, c48, B48⟩,
    f__law_step := f49, d__law_step := _, F__law_step := F49, b__law_step := B49, g__law_step := PySem.W.mg_of X G a49,
    f__law_done := f50, d__law_done := _, F__law_done := F50, b__law_done := B50, g__law_done := PySem.W.mg_of X G a50,
    f__law_sound := f51, d__law_sound := _, F__law_sound := F51, b__law_sound := B51, g__law_sound := PySem.W.mg_of X G a51,
    f__law_report := f52, d__law_report := _, F__law_report := F52, b__law_report := B52, g__law_report := PySem.W.mg_of X G a52,
    f__law_stands := f53, d__law_stands := _, F__law_stands := F53, b__law_stands := B53, g__law_stands := PySem.W.mg_of X G a53,
    f__law_odd_step := f54, d__law_odd_step := _, F__law_odd_step := F54, b__law_odd_step := B54, g__law_odd_step := PySem.W.mg_of X G a54,
    f__law_some_steps := f55, d__law_some_steps := _, F__law_some_steps := F55, b__law_some_steps := B55, g__law_some_steps := PySem.W.mg_of X G a55,
    f__law_none_right := f56, d__law_none_right := _, F__law_none_right := F56, b__law_none_right := B56, g__law_none_right := PySem.W.mg_of X G a56,
    c__law_none_right := cL56, P__law_none_right := PL56, cd__law_none_right := rfl,
    f_law := fa, d_law := _, F_law := F57, b_law := B57, g_law := hfa,
    c_law := cL57, P_law := PL57, cd_law := rfl,
    C_Clip := CO0, g_Clip := PySem.W.mg_of X G aO0, cl_Clip := ⟨pgO0, hdO0, poO0, saO0⟩, sf_Clip := sf0, ne_Clip := xe0, is_Clip := ⟨xa0, xn0, xk0, xm0, isc_no xi0 xt0 xs0NoneType xs0bool xs0int xs0str xs0list xs0tuple xs0dict⟩, na_Clip__coder := nO0_coder, na_Clip__codes := nO0_codes, na_Clip__state := nO0_state, f_Clip_init := f58, d_Clip_init := _, F_Clip_init := ⟨_, _, F58⟩, k_Clip_init := KB58, q_Clip_init := q58, qd_Clip_init := qe58, qs_Clip_init := fun H => .inr ⟨_, #[.int 0 tq58, .int 0 tr58], _, t58, rfl, rfl, (by show 2 ≤ sizeLine; decide), .cons ⟨_, rfl⟩ (.cons ⟨_, rfl⟩ .nil)⟩, qds_Clip_init := fun H => .inr ⟨_, #[], _, z58, rfl, rfl, (by show 0 ≤ sizeLine; decide), .nil⟩, e_Clip_init := e58, ev_Clip_init := ev58, b_Clip_init := B58, eb_Clip_init := eb58, evb_Clip_init := evb58, bb_Clip_init := BB58, mk_Clip := ⟨mkO0, a58, i58, kcO0⟩, f_Clip_coder := f59, d_Clip_coder := _, F_Clip_coder := F59, b_Clip_coder := B59, p_Clip_coder := p59, po_Clip_coder := ⟨a59, gt59, tk59, ⟨_, rc59⟩⟩, f_Clip_codes := f60, d_Clip_codes := _, F_Clip_codes := F60, b_Clip_codes := B60, p_Clip_codes := p60, po_Clip_codes := ⟨a60, gt60, tk60, ⟨_, rc60⟩⟩, f_Clip_state := f61, d_Clip_state := _, F_Clip_state := F61, b_Clip_state := B61, p_Clip_state := p61, po_Clip_state := ⟨a61, gt61, tk61, ⟨_, rc61⟩⟩, f_Clip_heard := f62, d_Clip_heard := _, F_Clip_heard := F62, b_Clip_heard := B62, me_Clip_heard := ⟨a62, i62, k62⟩, f_Clip_last := f63, d_Clip_last := _, F_Clip_last := F63, b_Clip_last := B63, me_Clip_last := ⟨a63, i63, k63⟩, f_Clip_stretch := f64, d_Clip_stretch := _, F_Clip_stretch := F64, b_Clip_stretch := B64, me_Clip_stretch := ⟨a64, i64, k64⟩, f_Clip_copy := f65, d_Clip_copy := _, F_Clip_copy := F65, b_Clip_copy := B65, me_Clip_copy := ⟨a65, i65, k65⟩, f_Clip_begins := f66, d_Clip_begins := _, F_Clip_begins := F66, b_Clip_begins := B66, me_Clip_begins := ⟨a66, i66, k66⟩, f_Clip_len := f67, d_Clip_len := _, F_Clip_len := F67, b_Clip_len := B67, at_Clip_len := a67, fn_Clip_len := i67, f_Clip_eq := f68, d_Clip_eq := _, F_Clip_eq := F68, b_Clip_eq := B68, at_Clip_eq := a68, fn_Clip_eq := i68, f_Clip_contains := f69, d_Clip_contains := _, F_Clip_contains := F69, b_Clip_contains := B69, at_Clip_contains := a69, fn_Clip_contains := i69, f_Clip_add := f70, d_Clip_add := _, F_Clip_add := F70, b_Clip_add := B70, at_Clip_add := a70, fn_Clip_add := i70, f_Clip_mul := f71, d_Clip_mul := _, F_Clip_mul := F71, b_Clip_mul := B71, at_Clip_mul := a71, fn_Clip_mul := i71, f_Clip_rmul := f72, d_Clip_rmul := _, F_Clip_rmul := F72, b_Clip_rmul := B72, at_Clip_rmul := a72, fn_Clip_rmul := i72, f_Clip_iadd := f73, d_Clip_iadd := _, F_Clip_iadd := F73, b_Clip_iadd := B73, at_Clip_iadd := a73, fn_Clip_iadd := i73,
    C_Desk := CO1, g_Desk := PySem.W.mg_of X G aO1, cl_Desk := ⟨pgO1, hdO1, poO1, saO1⟩, is_Desk := ⟨xa1, xn1, xk1, xm1, isc_no xi1 xt1 xs1NoneType xs1bool xs1int xs1str xs1list xs1tuple xs1dict⟩, kl_Desk := My.kit_ownT (by decide +kernel) sDl1, kt_Desk := My.kit_ownT (by decide +kernel) sDt1, kd_Desk := kit_no xi0 xt0 sDD1 sDC1, ne_cd := (fun e => by rw [e] at sDC1; rw [sDD1] at sDC1; cases sDC1), na_Desk__first := nO1_first, na_Desk__codes := nO1_codes, na_Desk__state := nO1_state, na_Desk__done := nO1_done, na_Desk__undone := nO1_undone, na_Desk__tries := nO1_tries, f_Desk_init := f74, d_Desk_init := _, F_Desk_init := F74, b_Desk_init := B74, mk_Desk := ⟨mkO1, a74, i74, kcO1⟩, f_Desk_do := f75, d_Desk_do := _, F_Desk_do := F75, b_Desk_do := B75, me_Desk_do := ⟨a75, i75, k75⟩, f_Desk_do_all := f76, d_Desk_do_all := _, F_Desk_do_all := F76, b_Desk_do_all := B76, me_Desk_do_all := ⟨a76, i76, k76⟩, f_Desk_undo := f77, d_Desk_undo := _, F_Desk_undo := F77, b_Desk_undo := B77, me_Desk_undo := ⟨a77, i77, k77⟩, f_Desk_redo := f78, d_Desk_redo := _, F_Desk_redo := F78, b_Desk_redo := B78, me_Desk_redo := ⟨a78, i78, k78⟩, f_Desk_clip := f79, d_Desk_clip := _, F_Desk_clip := F79, b_Desk_clip := B79, me_Desk_clip := ⟨a79, i79, k79⟩, f_Desk_heard := f80, d_Desk_heard := _, F_Desk_heard := F80, b_Desk_heard := B80, me_Desk_heard := ⟨a80, i80, k80⟩, f_Desk_steps := f81, d_Desk_steps := _, F_Desk_steps := F81, b_Desk_steps := B81, me_Desk_steps := ⟨a81, i81, k81⟩, f_Desk_tries := f82, d_Desk_tries := _, F_Desk_tries := F82, b_Desk_tries := B82, me_Desk_tries := ⟨a82, i82, k82⟩, f_Desk_copy := f83, d_Desk_copy := _, F_Desk_copy := F83, b_Desk_copy := B83, me_Desk_copy := ⟨a83, i83, k83⟩, f_Desk_len := f84, d_Desk_len := _, F_Desk_len := F84, b_Desk_len := B84, at_Desk_len := a84, fn_Desk_len := i84, f_Desk_eq := f85, d_Desk_eq := _, F_Desk_eq := F85, b_Desk_eq := B85, at_Desk_eq := a85, fn_Desk_eq := i85, f_Desk_do_each := f86, d_Desk_do_each := _, F_Desk_do_each := F86, b_Desk_do_each := B86, me_Desk_do_each := ⟨a86, i86, k86⟩, f_Desk_follow := f87, d_Desk_follow := _, F_Desk_follow := F87, b_Desk_follow := B87, me_Desk_follow := ⟨a87, i87, k87⟩,
    nP__law_none_right_law := nP56x57,
    z_bool := PySem.W.mg_none_of X G z_bool,
    z_enumerate := PySem.W.mg_none_of X G z_enumerate,
    z_int := PySem.W.mg_none_of X G z_int,
    z_isinstance := PySem.W.mg_none_of X G z_isinstance,
    z_len := PySem.W.mg_none_of X G z_len,
    z_list := PySem.W.mg_none_of X G z_list,
    z_max := PySem.W.mg_none_of X G z_max,
    z_min := PySem.W.mg_none_of X G z_min,
    z_range := PySem.W.mg_none_of X G z_range,
    z_repr := PySem.W.mg_none_of X G z_repr,
    z_str := PySem.W.mg_none_of X G z_str,
    z_tuple := PySem.W.mg_none_of X G z_tuple,
    x_BadCoder := ⟨gaC0, ggC0, eC0, hdC0⟩, n_BadCoder_part := nC0part, n_BadCoder_number := nC0number, X_BadCoder := ⟨gaC0, ggC0, eC0, hdC0, haC0, hnO, htO, hmC0⟩, e_BadCoder_BadRow := exm_of eC1 isC1 tC1 sC0x1, e_BadCoder_TooGreat := exm_of eC2 isC2 tC2 sC0x2, e_BadCoder_OutOfPlace := exm_of eC3 isC3 tC3 sC0x3, e_BadCoder_NoSeam := exm_of eC4 isC4 tC4 sC0x4, e_BadCoder_Nothing := exm_of eC5 isC5 tC5 sC0x5, em_BadCoder := ⟨exm_of eC0 isC0 tC0 sC0, exm_of eC1 isC1 tC1 sC0x1, exm_of eC6 isC6 tC6 sC0x6, exm_of eC7 isC7 tC7 sC0x7, exm_of eC2 isC2 tC2 sC0x2, exm_of eC3 isC3 tC3 sC0x3, exm_of eC4 isC4 tC4 sC0x4, exm_of eC5 isC5 tC5 sC0x5, True.intro⟩, ks_BadCoder := ⟨kit_self, kit_no isC1 tC1 sC0 sC0x1, kit_no isC6 tC6 sC0 sC0x6, kit_no isC7 tC7 sC0 sC0x7, kit_no isC2 tC2 sC0 sC0x2, kit_no isC3 tC3 sC0 sC0x3, kit_no isC4 tC4 sC0 sC0x4, kit_no isC5 tC5 sC0 sC0x5, True.intro⟩,
    C_BadCoder := C0, fi_BadCoder := g0, di_BadCoder := _, g_BadCoder := PySem.W.mg_of X G aC0, o_BadCoder := ⟨⟨_, _, _, _, _, _, _, _, _, _, _, _, _, _, _, xC0, by decide +kernel⟩, saC0, eC0, tC0, kC0⟩, i_BadCoder := iC0, t_BadCoder := tI0, Fi_BadCoder := FI0, bi_BadCoder := BI0, e_BadCoder := exm_of eC0 isC0 tC0 sC0,
    x_BadRow := ⟨gaC1, ggC1, eC1, hdC1⟩, n_BadRow_row := nC1row, n_BadRow_word := nC1word, X_BadRow := ⟨gaC1, ggC1, eC1, hdC1, haC1, hnO, htO, hmC1⟩, e_BadRow_BadCoder := exm_of eC0 isC0 tC0 sC1x0, e_BadRow_TooGreat := exm_of eC2 isC2 tC2 sC1x2, e_BadRow_OutOfPlace := exm_of eC3 isC3 tC3 sC1x3, e_BadRow_NoSeam := exm_of eC4 isC4 tC4 sC1x4, e_BadRow_Nothing := exm_of eC5 isC5 tC5 sC1x5, em_BadRow := ⟨exm_of eC0 isC0 tC0 sC1x0, exm_of eC1 isC1 tC1 sC1, exm_of eC6 isC6 tC6 sC1x6, exm_of eC7 isC7 tC7 sC1x7, exm_of eC2 isC2 tC2 sC1x2, exm_of eC3 isC3 tC3 sC1x3, exm_of eC4 isC4 tC4 sC1x4, exm_of eC5 isC5 tC5 sC1x5, True.intro⟩, ks_BadRow := ⟨kit_no isC0 tC0 sC1 sC1x0, kit_self, kit_no isC6 tC6 sC1 sC1x6, kit_no isC7 tC7 sC1 sC1x7, kit_no isC2 tC2 sC1 sC1x2, kit_no isC3 tC3 sC1 sC1x3, kit_no isC4 tC4 sC1 sC1x4, kit_no isC5 tC5 sC1 sC1x5, True.intro⟩,
    C_BadRow := C1, fi_BadRow := g1, di_BadRow := _, g_BadRow := PySem.W.mg_of X G aC1, o_BadRow := ⟨⟨_, _, _, _, _, _, _, _, _, _, _, _, _, _, _, xC1, by decide +kernel⟩, saC1, eC1, tC1, kC1⟩, i_BadRow := iC1, t_BadRow := tI1, Fi_BadRow := FI1, bi_BadRow := BI1, e_BadRow := exm_of eC1 isC1 tC1 sC1,
    x_TooGreat := ⟨gaC2, ggC2, eC2, hdC2⟩, n_TooGreat_most := nC2most, X_TooGreat := ⟨gaC2, ggC2, eC2, hdC2, haC2, hnO, htO, hmC2⟩, e_TooGreat_BadCoder := exm_of eC0 isC0 tC0 sC2x0, e_TooGreat_BadRow := exm_of eC1 isC1 tC1 sC2x1, e_TooGreat_OutOfPlace := exm_of eC3 isC3 tC3 sC2x3, e_TooGreat_NoSeam := exm_of eC4 isC4 tC4 sC2x4, e_TooGreat_Nothing := exm_of eC5 isC5 tC5 sC2x5, em_TooGreat := ⟨exm_of eC0 isC0 tC0 sC2x0, exm_of eC1 isC1 tC1 sC2x1, exm_of eC6 isC6 tC6 sC2x6, exm_of eC7 isC7 tC7 sC2x7, exm_of eC2 isC2 tC2 sC2, exm_of eC3 isC3 tC3 sC2x3, exm_of eC4 isC4 tC4 sC2x4, exm_of eC5 isC5 tC5 sC2x5, True.intro⟩, ks_TooGreat := ⟨kit_no isC0 tC0 sC2 sC2x0, kit_no isC1 tC1 sC2 sC2x1, kit_no isC6 tC6 sC2 sC2x6, kit_no isC7 tC7 sC2 sC2x7, kit_self, kit_no isC3 tC3 sC2 sC2x3, kit_no isC4 tC4 sC2 sC2x4, kit_no isC5 tC5 sC2 sC2x5, True.intro⟩,
    C_TooGreat := C2, fi_TooGreat := g2, di_TooGreat := _, g_TooGreat := PySem.W.mg_of X G aC2, o_TooGreat := ⟨⟨_, _, _, _, _, _, _, _, _, _, _, _, _, _, xC2⟩, saC2, eC2, tC2, kC2⟩, i_TooGreat := iC2, t_TooGreat := tI2, Fi_TooGreat := FI2, bi_TooGreat := BI2, e_TooGreat := exm_of eC2 isC2 tC2 sC2,
    x_OutOfPlace := ⟨gaC3, ggC3, eC3, hdC3⟩, X_OutOfPlace := ⟨gaC3, ggC3, eC3, hdC3, haC3, hnO, htO, hmC3⟩, e_OutOfPlace_BadCoder := exm_of eC0 isC0 tC0 sC3x0, e_OutOfPlace_BadRow := exm_of eC1 isC1 tC1 sC3x1, e_OutOfPlace_TooGreat := exm_of eC2 isC2 tC2 sC3x2, e_OutOfPlace_NoSeam := exm_of eC4 isC4 tC4 sC3x4, e_OutOfPlace_Nothing := exm_of eC5 isC5 tC5 sC3x5, em_OutOfPlace := ⟨exm_of eC0 isC0 tC0 sC3x0, exm_of eC1 isC1 tC1 sC3x1, exm_of eC6 isC6 tC6 sC3x6, exm_of eC7 isC7 tC7 sC3x7, exm_of eC2 isC2 tC2 sC3x2, exm_of eC3 isC3 tC3 sC3, exm_of eC4 isC4 tC4 sC3x4, exm_of eC5 isC5 tC5 sC3x5, True.intro⟩, ks_OutOfPlace := ⟨kit_no isC0 tC0 sC3 sC3x0, kit_no isC1 tC1 sC3 sC3x1, kit_no isC6 tC6 sC3 sC3x6, kit_no isC7 tC7 sC3 sC3x7, kit_no isC2 tC2 sC3 sC3x2, kit_self, kit_no isC4 tC4 sC3 sC3x4, kit_no isC5 tC5 sC3 sC3x5, True.intro⟩,
    C_OutOfPlace := C3, fi_OutOfPlace := g3, di_OutOfPlace := _, g_OutOfPlace := PySem.W.mg_of X G aC3, o_OutOfPlace := ⟨⟨_, _, _, _, _, _, _, _, _, _, _, _, _, _, _, xC3, by decide +kernel⟩, saC3, eC3, tC3, kC3⟩, i_OutOfPlace := iC3, t_OutOfPlace := tI3, Fi_OutOfPlace := FI3, bi_OutOfPlace := BI3, e_OutOfPlace := exm_of eC3 isC3 tC3 sC3,
    x_NoSeam := ⟨gaC4, ggC4, eC4, hdC4⟩, X_NoSeam := ⟨gaC4, ggC4, eC4, hdC4, haC4, hnO, htO, hmC4⟩, e_NoSeam_BadCoder := exm_of eC0 isC0 tC0 sC4x0, e_NoSeam_BadRow := exm_of eC1 isC1 tC1 sC4x1, e_NoSeam_TooGreat := exm_of eC2 isC2 tC2 sC4x2, e_NoSeam_OutOfPlace := exm_of eC3 isC3 tC3 sC4x3, e_NoSeam_Nothing := exm_of eC5 isC5 tC5 sC4x5, em_NoSeam := ⟨exm_of eC0 isC0 tC0 sC4x0, exm_of eC1 isC1 tC1 sC4x1, exm_of eC6 isC6 tC6 sC4x6, exm_of eC7 isC7 tC7 sC4x7, exm_of eC2 isC2 tC2 sC4x2, exm_of eC3 isC3 tC3 sC4x3, exm_of eC4 isC4 tC4 sC4, exm_of eC5 isC5 tC5 sC4x5, True.intro⟩, ks_NoSeam := ⟨kit_no isC0 tC0 sC4 sC4x0, kit_no isC1 tC1 sC4 sC4x1, kit_no isC6 tC6 sC4 sC4x6, kit_no isC7 tC7 sC4 sC4x7, kit_no isC2 tC2 sC4 sC4x2, kit_no isC3 tC3 sC4 sC4x3, kit_self, kit_no isC5 tC5 sC4 sC4x5, True.intro⟩,
    C_NoSeam := C4, fi_NoSeam := g4, di_NoSeam := _, g_NoSeam := PySem.W.mg_of X G aC4, o_NoSeam := ⟨⟨_, _, _, _, _, _, _, _, _, _, _, _, _, _, _, xC4, by decide +kernel⟩, saC4, eC4, tC4, kC4⟩, i_NoSeam := iC4, t_NoSeam := tI4, Fi_NoSeam := FI4, bi_NoSeam := BI4, e_NoSeam := exm_of eC4 isC4 tC4 sC4,
    x_Nothing := ⟨gaC5, ggC5, eC5, hdC5⟩, X_Nothing := ⟨gaC5, ggC5, eC5, hdC5, haC5, hnO, htO, hmC5⟩, e_Nothing_BadCoder := exm_of eC0 isC0 tC0 sC5x0, e_Nothing_BadRow := exm_of eC1 isC1 tC1 sC5x1, e_Nothing_TooGreat := exm_of eC2 isC2 tC2 sC5x2, e_Nothing_OutOfPlace := exm_of eC3 isC3 tC3 sC5x3, e_Nothing_NoSeam := exm_of eC4 isC4 tC4 sC5x4, em_Nothing := ⟨exm_of eC0 isC0 tC0 sC5x0, exm_of eC1 isC1 tC1 sC5x1, exm_of eC6 isC6 tC6 sC5x6, exm_of eC7 isC7 tC7 sC5x7, exm_of eC2 isC2 tC2 sC5x2, exm_of eC3 isC3 tC3 sC5x3, exm_of eC4 isC4 tC4 sC5x4, exm_of eC5 isC5 tC5 sC5, True.intro⟩, ks_Nothing := ⟨kit_no isC0 tC0 sC5 sC5x0, kit_no isC1 tC1 sC5 sC5x1, kit_no isC6 tC6 sC5 sC5x6, kit_no isC7 tC7 sC5 sC5x7, kit_no isC2 tC2 sC5 sC5x2, kit_no isC3 tC3 sC5 sC5x3, kit_no isC4 tC4 sC5 sC5x4, kit_self, True.intro⟩,
    C_Nothing := C5, fi_Nothing := g5, di_Nothing := _, g_Nothing := PySem.W.mg_of X G aC5, o_Nothing := ⟨⟨_, _, _, _, _, _, _, _, _, _, _, _, _, _, xC5⟩, saC5, eC5, tC5, kC5⟩, i_Nothing := iC5, t_Nothing := tI5, Fi_Nothing := FI5, bi_Nothing := BI5, e_Nothing := exm_of eC5 isC5 tC5 sC5,
    C_BadPaper := C6, g_BadPaper := PySem.W.mg_of X G aC6,
    C_BadByte := C7, g_BadByte := PySem.W.mg_of X G aC7,
    vL := vL, zL := PySem.W.mg_none_of X G zL,
    vV := vV, zV := PySem.W.mg_none_of X G zV,
    t_MOST_CODES := tMC, g_MOST_CODES := PySem.W.mg_of X G mc,
    q_STEPS := qSTEPS, qs_STEPS := fun H => .tup (xs := [.ref qSTEPS0, .ref qSTEPS1, .ref qSTEPS2, .ref qSTEPS3]) (.inr ⟨_, #[.ref qSTEPS0, .ref qSTEPS1, .ref qSTEPS2, .ref qSTEPS3], _, lSTEPS, rfl, rfl, (by show 4 ≤ sizeLine; decide), (.cons rfl (.cons rfl (.cons rfl (.cons rfl .nil))))⟩) (.cons (.tup (xs := [.str "put", .int 3]) (.inr ⟨_, #[.str "put" tSTEPS0x0, .int 3 tSTEPS0x1], _, lSTEPS0, rfl, rfl, (by show 2 ≤ sizeLine; decide), (.cons ⟨_, rfl⟩ (.cons ⟨_, rfl⟩ .nil))⟩) (.cons (.str _) (.cons (.int _) .nil))) (.cons (.tup (xs := [.str "set", .int 3]) (.inr ⟨_, #[.str "set" tSTEPS1x0, .int 3 tSTEPS1x1], _, lSTEPS1, rfl, rfl, (by show 2 ≤ sizeLine; decide), (.cons ⟨_, rfl⟩ (.cons ⟨_, rfl⟩ .nil))⟩) (.cons (.str _) (.cons (.int _) .nil))) (.cons (.tup (xs := [.str "cut", .int 3]) (.inr ⟨_, #[.str "cut" tSTEPS2x0, .int 3 tSTEPS2x1], _, lSTEPS2, rfl, rfl, (by show 2 ≤ sizeLine; decide), (.cons ⟨_, rfl⟩ (.cons ⟨_, rfl⟩ .nil))⟩) (.cons (.str _) (.cons (.int _) .nil))) (.cons (.tup (xs := [.str "from", .int 2]) (.inr ⟨_, #[.str "from" tSTEPS3x0, .int 2 tSTEPS3x1], _, lSTEPS3, rfl, rfl, (by show 2 ≤ sizeLine; decide), (.cons ⟨_, rfl⟩ (.cons ⟨_, rfl⟩ .nil))⟩) (.cons (.str _) (.cons (.int _) .nil))) .nil)))), g_STEPS := PySem.W.mg_of X G cSTEPS }
  have t1 : ∀ p ∈ ([(cL56, PL56), (cL57, PL57)] : List (Addr × Addr)), h.get? p.2 = some (tabO #[]) := List.forall_mem_cons.mpr ⟨own _ (by simp) _ (PySem.W.mg_of X G a56) _ _ _ _ _ _ _ _ l56 rfl rfl lL56 vL56, List.forall_mem_cons.mpr ⟨own _ (by simp) _ (PySem.W.mg_of X G a57) _ _ _ _ _ _ _ _ l57 rfl rfl lL57 vL57, List.forall_mem_nil _⟩⟩
  have t2 : ∀ p ∈ ([(cL56, PL56), (cL57, PL57)] : List (Addr × Addr)), K.lookup p.2 = none := List.forall_mem_cons.mpr ⟨nL56, List.forall_mem_cons.mpr ⟨nL57, List.forall_mem_nil _⟩⟩
  have t3 : ∀ p ∈ ([(cL56, PL56), (cL57, PL57)] : List (Addr × Addr)), PySem.W.CodeHd h p.1 p.2 := List.forall_mem_cons.mpr ⟨PySem.W.codeHd_of_K X hL56, List.forall_mem_cons.mpr ⟨PySem.W.codeHd_of_K X hL57, List.forall_mem_nil _⟩⟩
  exact ⟨_, [(cL56, PL56), (cL57, PL57)], t1, t2, t3, fun s v => .of_eq rfl, fun base _ _ tb => ok_law T (tb _ (.head _)) (tb _ (.tail _ (.head _)))⟩
end My
open PySem PySem.W PyProof.Rows
set_option maxRecDepth 100000 in
set_option maxHeartbeats 0 in
theorem PySem.Challenge.cw_stepsound_k56_steps_all_or_none_holds : PySem.Challenge.rw_stepsound_k56_steps_all_or_none.Holds := by
  w_on; o_law; k_head; (case hw => w_witness2)
  k_fill
  refine My.walk_ofGTs (l := PySem.Challenge.rw_stepsound_k56_steps_all_or_none) (n := 63) (k := 18) (x := "script") (NM := ["_law_none_right", "law"]) (sp := fun K cs => My.sp_law K (cs.map (·.2))) rfl (by decide) rfl ⟨rfl, by decide, by decide⟩ (by decide +kernel) (fun w h Y => PySem.W.km_in_of Y) ?F (fun K H a cs ns hl hP hS => ⟨a, ns, rfl, hS, hl, (fun P hp => by obtain ⟨p, hp2, rfl⟩ := List.mem_map.mp hp; exact hP p hp2), fun _ => rfl⟩)
  case F =>
    intro w mg fa h KX G hmg own
    refine' My.all_mk KX G hmg own ?a0 ?l0 ?c0 ?k0 ?a1 ?l1 ?c1 ?k1 ?a2 ?l2 ?c2 ?k2 ?a3 ?l3 ?c3 ?k3 ?a4 ?l4 ?c4 ?k4 ?a5 ?l5 ?c5 ?k5 ?a6 ?l6 ?c6 ?k6 ?a7 ?l7 ?c7 ?k7 ?a8 ?l8 ?c8 ?k8 ?a9 ?l9 ?c9 ?k9 ?a10 ?l10 ?c10 ?k10 ?a11 ?l11 ?c11 ?k11 ?a12 ?l12 ?c12 ?k12 ?a13 ?l13 ?c13 ?k13 ?a14 ?l14 ?c14 ?k14 ?a15 ?l15 ?c15 ?k15 ?a16 ?l16 ?c16 ?k16 ?a17 ?l17 ?c17 ?k17 ?a18 ?l18 ?c18 ?k18 ?a19 ?l19 ?c19 ?k19 ?a20 ?l20 ?c20 ?k20 ?a21 ?l21 ?c21 ?k21 ?a22 ?l22 ?c22 ?k22 ?a23 ?l23 ?c23 ?k23 ?a24 ?l24 ?c24 ?k24 ?a25 ?l25 ?c25 ?k25 ?a26 ?l26 ?c26 ?k26 ?a27 ?l27 ?c27 ?k27 ?a28 ?l28 ?c28 ?k28 ?a29 ?l29 ?c29 ?k29 ?a30 ?l30 ?c30 ?k30 ?a31 ?l31 ?c31 ?k31 ?a32 ?l32 ?c32 ?k32 ?a33 ?l33 ?c33 ?k33 ?a34 ?l34 ?c34 ?k34 ?a35 ?l35 ?c35 ?k35 ?a36 ?l36 ?c36 ?k36 ?a37 ?l37 ?c37 ?k37 ?a38 ?l38 ?c38 ?k38 ?a39 ?l39 ?c39 ?k39 ?a40 ?l40 ?c40 ?k40 ?a41 ?l41 ?c41 ?k41 ?a42 ?l42 ?c42 ?k42 ?a43 ?l43 ?c43 ?k43 ?a44 ?l44 ?c44 ?k44 ?a45 ?l45 ?c45 ?k45 ?a46 ?l46 ?c46 ?k46 ?a47 ?l47 ?c47 ?k47 ?a48 ?l48 ?c48 ?k48 ?a49 ?l49 ?c49 ?k49 ?a50 ?l50 ?c50 ?k50 ?a51 ?l51 ?c51 ?k51 ?a52 ?l52 ?c52 ?k52 ?a53 ?l53 ?c53 ?k53 ?a54 ?l54 ?c54 ?k54 ?a55 ?l55 ?c55 ?k55 ?a56 ?l56 ?c56 ?k56 ?lL56 ?vL56 ?hL56 ?nL56 ?a57 ?l57 ?c57 ?k57 ?lL57 ?vL57 ?hL57 ?nL57 ?aO0 ?pgO0 ?hdO0 ?poO0 ?saO0 ?mkO0 ?kcO0 ?sf0 ?xa0 ?xm0 ?xi0 ?xt0 ?xs0NoneType ?xs0bool ?xs0int ?xs0str ?xs0list ?xs0tuple ?xs0dict ?xn0 ?xk0 ?xe0 ?nO0_coder ?nO0_codes ?nO0_state ?a58 ?i58 ?l58 ?c58 ?k58 ?n58 ?t58 ?e58 ?z58 ?a59 ?gt59 ?tk59 ?rc59 ?l59 ?c59 ?k59 ?a60 ?gt60 ?tk60 ?rc60 ?l60 ?c60 ?k60 ?a61 ?gt61 ?tk61 ?rc61 ?l61 ?c61 ?k61 ?a62 ?i62 ?l62 ?c62 ?k62 ?a63 ?i63 ?l63 ?c63 ?k63 ?a64 ?i64 ?l64 ?c64 ?k64 ?a65 ?i65 ?l65 ?c65 ?k65 ?a66 ?i66 ?l66 ?c66 ?k66 ?a67 ?i67 ?l67 ?c67 ?k67 ?a68 ?i68 ?l68 ?c68 ?k68 ?a69 ?i69 ?l69 ?c69 ?k69 ?a70 ?i70 ?l70 ?c70 ?k70 ?a71 ?i71 ?l71 ?c71 ?k71 ?a72 ?i72 ?l72 ?c72 ?k72 ?a73 ?i73 ?l73 ?c73 ?k73 ?aO1 ?pgO1 ?hdO1 ?poO1 ?saO1 ?mkO1 ?kcO1 ?xa1 ?xm1 ?xi1 ?xt1 ?xs1NoneType ?xs1bool ?xs1int ?xs1str ?xs1list ?xs1tuple ?xs1dict ?xn1 ?xk1 ?sDD1 ?sDC1 ?sDl1 ?sDt1 ?nO1_first ?nO1_codes ?nO1_state ?nO1_done ?nO1_undone ?nO1_tries ?a74 ?i74 ?l74 ?c74 ?k74 ?a75 ?i75 ?l75 ?c75 ?k75 ?a76 ?i76 ?l76 ?c76 ?k76 ?a77 ?i77 ?l77 ?c77 ?k77 ?a78 ?i78 ?l78 ?c78 ?k78 ?a79 ?i79 ?l79 ?c79 ?k79 ?a80 ?i80 ?l80 ?c80 ?k80 ?a81 ?i81 ?l81 ?c81 ?k81 ?a82 ?i82 ?l82 ?c82 ?k82 ?a83 ?i83 ?l83 ?c83 ?k83 ?a84 ?i84 ?l84 ?c84 ?k84 ?a85 ?i85 ?l85 ?c85 ?k85 ?a86 ?i86 ?l86 ?c86 ?k86 ?a87 ?i87 ?l87 ?c87 ?k87 ?nP56x57 ?z_bool ?z_enumerate ?z_int ?z_isinstance ?z_len ?z_list ?z_max ?z_min ?z_range ?z_repr ?z_str ?z_tuple ?aC0 ?xC0 ?saC0 ?iC0 ?tI0 ?lC0 ?cC0 ?kI0 ?kC0 ?eC0 ?tC0 ?isC0 ?sC0 ?gaC0 ?ggC0 ?hdC0 ?nC0part ?nC0number ?haC0 ?hmC0 ?aC1 ?xC1 ?saC1 ?iC1 ?tI1 ?lC1 ?cC1 ?kI1 ?kC1 ?eC1 ?tC1 ?isC1 ?sC1 ?gaC1 ?ggC1 ?hdC1 ?nC1row ?nC1word ?haC1 ?hmC1 ?aC2 ?xC2 ?saC2 ?iC2 ?tI2 ?lC2 ?cC2 ?kI2 ?kC2 ?eC2 ?tC2 ?isC2 ?sC2 ?gaC2 ?ggC2 ?hdC2 ?nC2most ?haC2 ?hmC2 ?aC3 ?xC3 ?saC3 ?iC3 ?tI3 ?lC3 ?cC3 ?kI3 ?kC3 ?eC3 ?tC3 ?isC3 ?sC3 ?gaC3 ?ggC3 ?hdC3 ?haC3 ?hmC3 ?aC4 ?xC4 ?saC4 ?iC4 ?tI4 ?lC4 ?cC4 ?kI4 ?kC4 ?eC4 ?tC4 ?isC4 ?sC4 ?gaC4 ?ggC4 ?hdC4 ?haC4 ?hmC4 ?aC5 ?xC5 ?saC5 ?iC5 ?tI5 ?lC5 ?cC5 ?kI5 ?kC5 ?eC5 ?tC5 ?isC5 ?sC5 ?gaC5 ?ggC5 ?hdC5 ?haC5 ?hmC5 ?aC6 ?eC6 ?tC6 ?isC6 ?aC7 ?eC7 ?tC7 ?isC7 ?hnO ?htO ?sC0x1 ?sC0x2 ?sC0x3 ?sC0x4 ?sC0x5 ?sC0x6 ?sC0x7 ?sC1x0 ?sC1x2 ?sC1x3 ?sC1x4 ?sC1x5 ?sC1x6 ?sC1x7 ?sC2x0 ?sC2x1 ?sC2x3 ?sC2x4 ?sC2x5 ?sC2x6 ?sC2x7 ?sC3x0 ?sC3x1 ?sC3x2 ?sC3x4 ?sC3x5 ?sC3x6 ?sC3x7 ?sC4x0 ?sC4x1 ?sC4x2 ?sC4x3 ?sC4x5 ?sC4x6 ?sC4x7 ?sC5x0 ?sC5x1 ?sC5x2 ?sC5x3 ?sC5x4 ?sC5x6 ?sC5x7 ?vL ?zL ?vV ?zV ?mc ?cSTEPS ?lSTEPS ?lSTEPS0 ?lSTEPS1 ?lSTEPS2 ?lSTEPS3
    (case a0 => k_is)
    (case l0 => k_is)
    (case c0 => k_is)
    (case k0 => k_is)
    (case a1 => k_is)
    (case l1 => k_is)
    (case c1 => k_is)
    (case k1 => k_is)
    (case a2 => k_is)
    (case l2 => k_is)
    (case c2 => k_is)
    (case k2 => k_is)
    (case a3 => k_is)
    (case l3 => k_is)
    (case c3 => k_is)
    (case k3 => k_is)
    (case a4 => k_is)
    (case l4 => k_is)
    (case c4 => k_is)
    (case k4 => k_is)
    (case a5 => k_is)
    (case l5 => k_is)
    (case c5 => k_is)
    (case k5 => k_is)
    (case a6 => k_is)
    (case l6 => k_is)
    (case c6 => k_is)
    (case k6 => k_is)
    (case a7 => k_is)
    (case l7 => k_is)
    (case c7 => k_is)
    (case k7 => k_is)
    (case a8 => k_is)
    (case l8 => k_is)
    (case c8 => k_is)
    (case k8 => k_is)
    (case a9 => k_is)
    (case l9 => k_is)
    (case c9 => k_is)
    (case k9 => k_is)
    (case a10 => k_is)
    (case l10 => k_is)
    (case c10 => k_is)
    (case k10 => k_is)
    (case a11 => k_is)
    (case l11 => k_is)
    (case c11 => k_is)
    (case k11 => k_is)
    (case a12 => k_is)
    (case l12 => k_is)
    (case c12 => k_is)
    (case k12 => k_is)
    (case a13 => k_is)
    (case l13 => k_is)
    (case c13 => k_is)
    (case k13 => k_is)
    (case a14 => k_is)
    (case l14 => k_is)
    (case c14 => k_is)
    (case k14 => k_is)
    (case a15 => k_is)
    (case l15 => k_is)
    (case c15 => k_is)
    (case k15 => k_is)
    (case a16 => k_is)
    (case l16 => k_is)
    (case c16 => k_is)
    (case k16 => k_is)
    (case a17 => k_is)
    (case l17 => k_is)
    (case c17 => k_is)
    (case k17 => k_is)
    (case a18 => k_is)
    (case l18 => k_is)
    (case c18 => k_is)
    (case k18 => k_is)
    (case a19 => k_is)
    (case l19 => k_is)
    (case c19 => k_is)
    (case k19 => k_is)
    (case a20 => k_is)
    (case l20 => k_is)
    (case c20 => k_is)
    (case k20 => k_is)
    (case a21 => k_is)
    (case l21 => k_is)
    (case c21 => k_is)
    (case k21 => k_is)
    (case a22 => k_is)
    (case l22 => k_is)
    (case c22 => k_is)
    (case k22 => k_is)
    (case a23 => k_is)
    (case l23 => k_is)
    (case c23 => k_is)
    (case k23 => k_is)
    (case a24 => k_is)
    (case l24 => k_is)
    (case c24 => k_is)
    (case k24 => k_is)
    (case a25 => k_is)
    (case l25 => k_is)
    (case c25 => k_is)
    (case k25 => k_is)
    (case a26 => k_is)
    (case l26 => k_is)
    (case c26 => k_is)
    (case k26 => k_is)
    (case a27 => k_is)
    (case l27 => k_is)
    (case c27 => k_is)
    (case k27 => k_is)
    (case a28 => k_is)
    (case l28 => k_is)
    (case c28 => k_is)
    (case k28 => k_is)
    (case a29 => k_is)
    (case l29 => k_is)
    (case c29 => k_is)
    (case k29 => k_is)
    (case a30 => k_is)
    (case l30 => k_is)
    (case c30 => k_is)
    (case k30 => k_is)
    (case a31 => k_is)
    (case l31 => k_is)
    (case c31 => k_is)
    (case k31 => k_is)
    (case a32 => k_is)
    (case l32 => k_is)
    (case c32 => k_is)
    (case k32 => k_is)
    (case a33 => k_is)
    (case l33 => k_is)
    (case c33 => k_is)
    (case k33 => k_is)
    (case a34 => k_is)
    (case l34 => k_is)
    (case c34 => k_is)
    (case k34 => k_is)
    (case a35 => k_is)
    (case l35 => k_is)
    (case c35 => k_is)
    (case k35 => k_is)
    (case a36 => k_is)
    (case l36 => k_is)
    (case c36 => k_is)
    (case k36 => k_is)
    (case a37 => k_is)
    (case l37 => k_is)
    (case c37 => k_is)
    (case k37 => k_is)
    (case a38 => k_is)
    (case l38 => k_is)
    (case c38 => k_is)
    (case k38 => k_is)
    (case a39 => k_is)
    (case l39 => k_is)
    (case c39 => k_is)
    (case k39 => k_is)
    (case a40 => k_is)
    (case l40 => k_is)
    (case c40 => k_is)
    (case k40 => k_is)
    (case a41 => k_is)
    (case l41 => k_is)
    (case c41 => k_is)
    (case k41 => k_is)
    (case a42 => k_is)
    (case l42 => k_is)
    (case c42 => k_is)
    (case k42 => k_is)
    (case a43 => k_is)
    (case l43 => k_is)
    (case c43 => k_is)
    (case k43 => k_is)
    (case a44 => k_is)
    (case l44 => k_is)
    (case c44 => k_is)
    (case k44 => k_is)
    (case a45 => k_is)
    (case l45 => k_is)
    (case c45 => k_is)
    (case k45 => k_is)
    (case a46 => k_is)
    (case l46 => k_is)
    (case c46 => k_is)
    (case k46 => k_is)
    (case a47 => k_is)
    (case l47 => k_is)
    (case c47 => k_is)
    (case k47 => k_is)
    (case a48 => k_is)
    (case l48 => k_is)
    (case c48 => k_is)
    (case k48 => k_is)
    (case a49 => k_is)
    (case l49 => k_is)
    (case c49 => k_is)
    (case k49 => k_is)
    (case a50 => k_is)
    (case l50 => k_is)
    (case c50 => k_is)
    (case k50 => k_is)
    (case a51 => k_is)
    (case l51 => k_is)
    (case c51 => k_is)
    (case k51 => k_is)
    (case a52 => k_is)
    (case l52 => k_is)
    (case c52 => k_is)
    (case k52 => k_is)
    (case a53 => k_is)
    (case l53 => k_is)
    (case c53 => k_is)
    (case k53 => k_is)
    (case a54 => k_is)
    (case l54 => k_is)
    (case c54 => k_is)
    (case k54 => k_is)
    (case a55 => k_is)
    (case l55 => k_is)
    (case c55 => k_is)
    (case k55 => k_is)
    (case a56 => k_is)
    (case l56 => k_is)
    (case c56 => k_is)
    (case k56 => k_is)
    (case lL56 => k_is)
    (case vL56 => exact rfl)
    (case hL56 => first | decide +kernel | rfl)
    (case nL56 => first | decide +kernel | rfl)
    (case a57 => k_is)
    (case l57 => k_is)
    (case c57 => k_is)
    (case k57 => k_is)
    (case lL57 => k_is)
    (case vL57 => exact rfl)
    (case hL57 => first | decide +kernel | rfl)
    (case nL57 => first | decide +kernel | rfl)
    (case aO0 => k_is)
    (case pgO0 => k_is)
    (case hdO0 => k_is)
    (case poO0 => k_is)
    (case saO0 => k_is)
    (case mkO0 => k_is)
    (case kcO0 => k_is)
    (case sf0 => k_is)
    (case xa0 => k_is)
    (case xm0 => k_is)
    (case xi0 => k_is)
    (case xt0 => k_is)
    (case xs0NoneType => first | rfl | k_is | decide +kernel)
    (case xs0bool => first | rfl | k_is | decide +kernel)
    (case xs0int => first | rfl | k_is | decide +kernel)
    (case xs0str => first | rfl | k_is | decide +kernel)
    (case xs0list => first | rfl | k_is | decide +kernel)
    (case xs0tuple => first | rfl | k_is | decide +kernel)
    (case xs0dict => first | rfl | k_is | decide +kernel)
    (case xn0 => k_is)
    (case xk0 => k_is)
    (case xe0 => k_is)
    (case nO0_coder => k_is)
    (case nO0_codes => k_is)
    (case nO0_state => k_is)
    (case a58 => k_is)
    (case i58 => k_is)
    (case l58 => k_is)
    (case c58 => k_is)
    (case k58 => k_is)
    (case n58 => k_is)
    (case t58 => k_is)
    (case e58 => k_is)
    (case z58 => k_is)
    (case a59 => k_is)
    (case gt59 => k_is)
    (case tk59 => k_is)
    (case rc59 => k_is)
    (case l59 => k_is)
    (case c59 => k_is)
    (case k59 => k_is)
    (case a60 => k_is)
    (case gt60 => k_is)
    (case tk60 => k_is)
    (case rc60 => k_is)
    (case l60 => k_is)
    (case c60 => k_is)
    (case k60 => k_is)
    (case a61 => k_is)
    (case gt61 => k_is)
    (case tk61 => k_is)
    (case rc61 => k_is)
    (case l61 => k_is)
    (case c61 => k_is)
    (case k61 => k_is)
    (case a62 => k_is)
    (case i62 => k_is)
    (case l62 => k_is)
    (case c62 => k_is)
    (case k62 => k_is)
    (case a63 => k_is)
    (case i63 => k_is)
    (case l63 => k_is)
    (case c63 => k_is)
    (case k63 => k_is)
    (case a64 => k_is)
    (case i64 => k_is)
    (case l64 => k_is)
    (case c64 => k_is)
    (case k64 => k_is)
    (case a65 => k_is)
    (case i65 => k_is)
    (case l65 => k_is)
    (case c65 => k_is)
    (case k65 => k_is)
    (case a66 => k_is)
    (case i66 => k_is)
    (case l66 => k_is)
    (case c66 => k_is)
    (case k66 => k_is)
    (case a67 => k_is)
    (case i67 => k_is)
    (case l67 => k_is)
    (case c67 => k_is)
    (case k67 => k_is)
    (case a68 => k_is)
    (case i68 => k_is)
    (case l68 => k_is)
    (case c68 => k_is)
    (case k68 => k_is)
    (case a69 => k_is)
    (case i69 => k_is)
    (case l69 => k_is)
    (case c69 => k_is)
    (case k69 => k_is)
    (case a70 => k_is)
    (case i70 => k_is)
    (case l70 => k_is)
    (case c70 => k_is)
    (case k70 => k_is)
    (case a71 => k_is)
    (case i71 => k_is)
    (case l71 => k_is)
    (case c71 => k_is)
    (case k71 => k_is)
    (case a72 => k_is)
    (case i72 => k_is)
    (case l72 => k_is)
    (case c72 => k_is)
    (case k72 => k_is)
    (case a73 => k_is)
    (case i73 => k_is)
    (case l73 => k_is)
    (case c73 => k_is)
    (case k73 => k_is)
    (case aO1 => k_is)
    (case pgO1 => k_is)
    (case hdO1 => k_is)
    (case poO1 => k_is)
    (case saO1 => k_is)
    (case mkO1 => k_is)
    (case kcO1 => k_is)
    (case xa1 => k_is)
    (case xm1 => k_is)
    (case xi1 => k_is)
    (case xt1 => k_is)
    (case xs1NoneType => first | rfl | k_is | decide +kernel)
    (case xs1bool => first | rfl | k_is | decide +kernel)
    (case xs1int => first | rfl | k_is | decide +kernel)
    (case xs1str => first | rfl | k_is | decide +kernel)
    (case xs1list => first | rfl | k_is | decide +kernel)
    (case xs1tuple => first | rfl | k_is | decide +kernel)
    (case xs1dict => first | rfl | k_is | decide +kernel)
    (case xn1 => k_is)
    (case xk1 => k_is)
    (case sDD1 => k_is)
    (case sDC1 => k_is)
    (case sDl1 => k_is)
    (case sDt1 => k_is)
    (case nO1_first => k_is)
    (case nO1_codes => k_is)
    (case nO1_state => k_is)
    (case nO1_done => k_is)
    (case nO1_undone => k_is)
    (case nO1_tries => k_is)
    (case a74 => k_is)
    (case i74 => k_is)
    (case l74 => k_is)
    (case c74 => k_is)
    (case k74 => k_is)
    (case a75 => k_is)
    (case i75 => k_is)
    (case l75 => k_is)
    (case c75 => k_is)
    (case k75 => k_is)
    (case a76 => k_is)
    (case i76 => k_is)
    (case l76 => k_is)
    (case c76 => k_is)
    (case k76 => k_is)
    (case a77 => k_is)
    (case i77 => k_is)
    (case l77 => k_is)
    (case c77 => k_is)
    (case k77 => k_is)
    (case a78 => k_is)
    (case i78 => k_is)
    (case l78 => k_is)
    (case c78 => k_is)
    (case k78 => k_is)
    (case a79 => k_is)
    (case i79 => k_is)
    (case l79 => k_is)
    (case c79 => k_is)
    (case k79 => k_is)
    (case a80 => k_is)
    (case i80 => k_is)
    (case l80 => k_is)
    (case c80 => k_is)
    (case k80 => k_is)
    (case a81 => k_is)
    (case i81 => k_is)
    (case l81 => k_is)
    (case c81 => k_is)
    (case k81 => k_is)
    (case a82 => k_is)
    (case i82 => k_is)
    (case l82 => k_is)
    (case c82 => k_is)
    (case k82 => k_is)
    (case a83 => k_is)
    (case i83 => k_is)
    (case l83 => k_is)
    (case c83 => k_is)
    (case k83 => k_is)
    (case a84 => k_is)
    (case i84 => k_is)
    (case l84 => k_is)
    (case c84 => k_is)
    (case k84 => k_is)
    (case a85 => k_is)
    (case i85 => k_is)
    (case l85 => k_is)
    (case c85 => k_is)
    (case k85 => k_is)
    (case a86 => k_is)
    (case i86 => k_is)
    (case l86 => k_is)
    (case c86 => k_is)
    (case k86 => k_is)
    (case a87 => k_is)
    (case i87 => k_is)
    (case l87 => k_is)
    (case c87 => k_is)
    (case k87 => k_is)
    (case nP56x57 => first | decide | decide +kernel | simp)
    (case z_bool => k_is)
    (case z_enumerate => k_is)
    (case z_int => k_is)
    (case z_isinstance => k_is)
    (case z_len => k_is)
    (case z_list => k_is)
    (case z_max => k_is)
    (case z_min => k_is)
    (case z_range => k_is)
    (case z_repr => k_is)
    (case z_str => k_is)
    (case z_tuple => k_is)
    (case aC0 => k_is)
    (case xC0 => k_is)
    (case saC0 => k_is)
    (case iC0 => k_is)
    (case tI0 => k_is)
    (case lC0 => k_is)
    (case cC0 => k_is)
    (case kI0 => k_is)
    (case kC0 => k_is)
    (case eC0 => k_is)
    (case tC0 => k_is)
    (case isC0 => k_is)
    (case sC0 => first | rfl | k_is | decide +kernel)
    (case gaC0 => k_is)
    (case ggC0 => k_is)
    (case hdC0 => k_is)
    (case nC0part => k_is)
    (case nC0number => k_is)
    (case haC0 => k_is)
    (case hmC0 => k_is)
    (case aC1 => k_is)
    (case xC1 => k_is)
    (case saC1 => k_is)
    (case iC1 => k_is)
    (case tI1 => k_is)
    (case lC1 => k_is)
    (case cC1 => k_is)
    (case kI1 => k_is)
    (case kC1 => k_is)
    (case eC1 => k_is)
    (case tC1 => k_is)
    (case isC1 => k_is)
    (case sC1 => first | rfl | k_is | decide +kernel)
    (case gaC1 => k_is)
    (case ggC1 => k_is)
    (case hdC1 => k_is)
    (case nC1row => k_is)
    (case nC1word => k_is)
    (case haC1 => k_is)
    (case hmC1 => k_is)
    (case aC2 => k_is)
    (case xC2 => k_is)
    (case saC2 => k_is)
    (case iC2 => k_is)
    (case tI2 => k_is)
    (case lC2 => k_is)
    (case cC2 => k_is)
    (case kI2 => k_is)
    (case kC2 => k_is)
    (case eC2 => k_is)
    (case tC2 => k_is)
    (case isC2 => k_is)
    (case sC2 => first | rfl | k_is | decide +kernel)
    (case gaC2 => k_is)
    (case ggC2 => k_is)
    (case hdC2 => k_is)
    (case nC2most => k_is)
    (case haC2 => k_is)
    (case hmC2 => k_is)
    (case aC3 => k_is)
    (case xC3 => k_is)
    (case saC3 => k_is)
    (case iC3 => k_is)
    (case tI3 => k_is)
    (case lC3 => k_is)
    (case cC3 => k_is)
    (case kI3 => k_is)
    (case kC3 => k_is)
    (case eC3 => k_is)
    (case tC3 => k_is)
    (case isC3 => k_is)
    (case sC3 => first | rfl | k_is | decide +kernel)
    (case gaC3 => k_is)
    (case ggC3 => k_is)
    (case hdC3 => k_is)
    (case haC3 => k_is)
    (case hmC3 => k_is)
    (case aC4 => k_is)
    (case xC4 => k_is)
    (case saC4 => k_is)
    (case iC4 => k_is)
    (case tI4 => k_is)
    (case lC4 => k_is)
    (case cC4 => k_is)
    (case kI4 => k_is)
    (case kC4 => k_is)
    (case eC4 => k_is)
    (case tC4 => k_is)
    (case isC4 => k_is)
    (case sC4 => first | rfl | k_is | decide +kernel)
    (case gaC4 => k_is)
    (case ggC4 => k_is)
    (case hdC4 => k_is)
    (case haC4 => k_is)
    (case hmC4 => k_is)
    (case aC5 => k_is)
    (case xC5 => k_is)
    (case saC5 => k_is)
    (case iC5 => k_is)
    (case tI5 => k_is)
    (case lC5 => k_is)
    (case cC5 => k_is)
    (case kI5 => k_is)
    (case kC5 => k_is)
    (case eC5 => k_is)
    (case tC5 => k_is)
    (case isC5 => k_is)
    (case sC5 => first | rfl | k_is | decide +kernel)
    (case gaC5 => k_is)
    (case ggC5 => k_is)
    (case hdC5 => k_is)
    (case haC5 => k_is)
    (case hmC5 => k_is)
    (case aC6 => k_is)
    (case eC6 => k_is)
    (case tC6 => k_is)
    (case isC6 => k_is)
    (case aC7 => k_is)
    (case eC7 => k_is)
    (case tC7 => k_is)
    (case isC7 => k_is)
    (case hnO => k_is)
    (case htO => k_is)
    (case sC0x1 => first | rfl | k_is | decide +kernel)
    (case sC0x2 => first | rfl | k_is | decide +kernel)
    (case sC0x3 => first | rfl | k_is | decide +kernel)
    (case sC0x4 => first | rfl | k_is | decide +kernel)
    (case sC0x5 => first | rfl | k_is | decide +kernel)
    (case sC0x6 => first | rfl | k_is | decide +kernel)
    (case sC0x7 => first | rfl | k_is | decide +kernel)
    (case sC1x0 => first | rfl | k_is | decide +kernel)
    (case sC1x2 => first | rfl | k_is | decide +kernel)
    (case sC1x3 => first | rfl | k_is | decide +kernel)
    (case sC1x4 => first | rfl | k_is | decide +kernel)
    (case sC1x5 => first | rfl | k_is | decide +kernel)
    (case sC1x6 => first | rfl | k_is | decide +kernel)
    (case sC1x7 => first | rfl | k_is | decide +kernel)
    (case sC2x0 => first | rfl | k_is | decide +kernel)
    (case sC2x1 => first | rfl | k_is | decide +kernel)
    (case sC2x3 => first | rfl | k_is | decide +kernel)
    (case sC2x4 => first | rfl | k_is | decide +kernel)
    (case sC2x5 => first | rfl | k_is | decide +kernel)
    (case sC2x6 => first | rfl | k_is | decide +kernel)
    (case sC2x7 => first | rfl | k_is | decide +kernel)
    (case sC3x0 => first | rfl | k_is | decide +kernel)
    (case sC3x1 => first | rfl | k_is | decide +kernel)
    (case sC3x2 => first | rfl | k_is | decide +kernel)
    (case sC3x4 => first | rfl | k_is | decide +kernel)
    (case sC3x5 => first | rfl | k_is | decide +kernel)
    (case sC3x6 => first | rfl | k_is | decide +kernel)
    (case sC3x7 => first | rfl | k_is | decide +kernel)
    (case sC4x0 => first | rfl | k_is | decide +kernel)
    (case sC4x1 => first | rfl | k_is | decide +kernel)
    (case sC4x2 => first | rfl | k_is | decide +kernel)
    (case sC4x3 => first | rfl | k_is | decide +kernel)
    (case sC4x5 => first | rfl | k_is | decide +kernel)
    (case sC4x6 => first | rfl | k_is | decide +kernel)
    (case sC4x7 => first | rfl | k_is | decide +kernel)
    (case sC5x0 => first | rfl | k_is | decide +kernel)
    (case sC5x1 => first | rfl | k_is | decide +kernel)
    (case sC5x2 => first | rfl | k_is | decide +kernel)
    (case sC5x3 => first | rfl | k_is | decide +kernel)
    (case sC5x4 => first | rfl | k_is | decide +kernel)
    (case sC5x6 => first | rfl | k_is | decide +kernel)
    (case sC5x7 => first | rfl | k_is | decide +kernel)
    (case vL => first | rfl | k_is | decide +kernel)
    (case zL => k_is)
    (case vV => first | rfl | k_is | decide +kernel)
    (case zV => k_is)
    (case mc => k_is)
    (case cSTEPS => k_is)
    (case lSTEPS => k_is)
    (case lSTEPS0 => k_is)
    (case lSTEPS1 => k_is)
    (case lSTEPS2 => k_is)
    (case lSTEPS3 => k_is)



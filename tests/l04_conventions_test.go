package tests

import (
	"fmt"
	"math/rand/v2"
	"slices"
	"testing"

	"loop.example/g03221/impl"
)

// checkNoReduction: for rules or a type that are not valid, there are zero values.
func checkNoReduction(t *testing.T, rules []impl.Rule, k impl.KinType, label string) {
	t.Helper()
	u, j, i, ok := impl.RewriteStep(rules, k)
	expect(t, !ok && isZeroType(u) && j == 0 && i == 0, true, "RewriteStep: %s", label)
	expect(t, isZeroType(impl.NormalForm(rules, k)), true, "NormalForm: %s", label)
	expect(t, len(impl.TraceReduction(rules, k)), 0, "TraceReduction: %s", label)
	expect(t, len(impl.ReductsOf(rules, k)), 0, "ReductsOf: %s", label)
	forms, ok := impl.NormalFormsOf(rules, k)
	expect(t, !ok && len(forms) == 0, true, "NormalFormsOf: %s", label)
}

// checkNoFit: a rule or a type that is not valid.
func checkNoFit(t *testing.T, r impl.Rule, k impl.KinType, label string) {
	t.Helper()
	for _, i := range []int{lowest, -1, 0, 1, 2, 3, 7, 8, highest} {
		expect(t, impl.FitsAt(r, k, i), false, "FitsAt %d: %s", i, label)
		u, ok := impl.ReplaceAt(r, k, i)
		expect(t, !ok && isZeroType(u), true, "ReplaceAt %d: %s", i, label)
	}
}

func TestP13RulesThatAreNotValid(t *testing.T) {
	types := append(typesUpTo(1), kinType(t, "FB"), kinType(t, "m:FBFB"), kinType(t, "w:HFB"), kinType(t, "FBFBFBFB"))
	good := rule(t, "good: FB -> F")
	for label, r := range notRules(t) {
		for _, k := range types {
			checkNoFit(t, r, k, label)
			checkNoReduction(t, []impl.Rule{r}, k, label)
			checkNoReduction(t, []impl.Rule{good, r}, k, label+", second")
			checkNoReduction(t, []impl.Rule{r, good}, k, label+", first")
		}
		// The type that has just the steps From would be reduced if the rule was not looked at.
		checkNoFit(t, r, impl.KinType{Ego: r.Sex, Steps: r.From}, label)
		checkNoReduction(t, []impl.Rule{r}, impl.KinType{Ego: r.Sex, Steps: r.From}, label)
		for n := range 5 {
			expect(t, impl.IsConfluent([]impl.Rule{r}, n), false, "IsConfluent: %s", label)
		}
	}
}

func TestP13ListsOfRulesThatAreNotValid(t *testing.T) {
	lists := map[string][]impl.Rule{
		"a name twice":    {rule(t, "a: FB -> F"), rule(t, "b: BS -> S"), rule(t, "a: BB -> B")},
		"a rule twice":    {rule(t, "a: FB -> F"), rule(t, "a: FB -> F")},
		"thirteen rules":  namedRules(t, 13),
		"very many rules": slices.Repeat(namedRules(t, 2), 50000),
	}
	for label, rules := range lists {
		for _, k := range append(typesUpTo(1), kinType(t, "FB"), kinType(t, "m:FBSFB")) {
			checkNoReduction(t, rules, k, label)
		}
		expect(t, impl.AreRules(rules), false, "AreRules: %s", label)
		for n := range 5 {
			expect(t, impl.IsConfluent(rules, n), false, "IsConfluent: %s", label)
		}
		// Each rule by itself is valid.
		expect(t, impl.FitsAt(rules[0], kinType(t, "FB"), 0), true, "FitsAt: %s", label)
	}
}

func TestP13ReductionOfTypesThatAreNotValid(t *testing.T) {
	rules := impl.SampleRules("generation")
	for label, k := range notTypes() {
		for _, k := range []impl.KinType{k, {Ego: k.Ego, Steps: slices.Concat(rules[0].From, k.Steps)}} {
			if wantType(k) {
				continue
			}
			checkNoReduction(t, rules, k, label)
			checkNoReduction(t, nil, k, label+", without rules")
			checkNoFit(t, rules[0], k, label)
		}
	}
}

func TestP13ReductionWithoutRules(t *testing.T) {
	for _, rules := range [][]impl.Rule{nil, {}} {
		for _, k := range typesUpTo(1) {
			expect(t, isSameType(impl.NormalForm(rules, k), k), true, "NormalForm %v", k)
			expect(t, impl.TraceReduction(rules, k), []string{wantTypeText(k)}, "TraceReduction %v", k)
			expect(t, len(impl.ReductsOf(rules, k)), 0, "ReductsOf %v", k)
			forms, ok := impl.NormalFormsOf(rules, k)
			expect(t, ok && len(forms) == 1 && isSameType(forms[0], k), true, "NormalFormsOf %v", k)
		}
		expect(t, impl.IsConfluent(rules, 3), true, "IsConfluent")
	}
}

func roomyRule(r impl.Rule) impl.Rule {
	r.From, r.To = roomy(r.From, impl.Step{Kind: 77}), roomy(r.To, impl.Step{Kind: 78})
	return r
}

func roomyRules(rules []impl.Rule) []impl.Rule {
	list := []impl.Rule{}
	for _, r := range rules {
		list = append(list, roomyRule(r))
	}
	return roomy(list, impl.Rule{Name: "mark"})
}

// rulesWithRoom shows rules and the room behind them.
func rulesWithRoom(rules []impl.Rule) string {
	text := fmt.Sprint(rules[:cap(rules)])
	for _, r := range rules {
		text += fmt.Sprint(r.From[:cap(r.From)], r.To[:cap(r.To)])
	}
	return text
}

// askReduction gives rules and a type to all functions, and returns the types that come out.
func askReduction(rules []impl.Rule, k impl.KinType) []impl.KinType {
	impl.AreRules(rules)
	impl.TraceReduction(rules, k)
	impl.IsConfluent(rules, 1)
	u, _, _, _ := impl.RewriteStep(rules, k)
	list := []impl.KinType{u, impl.NormalForm(rules, k), impl.NormalForm(nil, k)}
	list = append(list, impl.ReductsOf(rules, k)...)
	forms, _ := impl.NormalFormsOf(rules, k)
	list = append(list, forms...)
	itself, _ := impl.NormalFormsOf(nil, k)
	list = append(list, itself...)
	for _, r := range rules {
		impl.IsRule(r)
		impl.FormatRule(r)
		for i := -1; i <= len(k.Steps); i++ {
			impl.FitsAt(r, k, i)
			u, _ := impl.ReplaceAt(r, k, i)
			list = append(list, u)
		}
	}
	return list
}

func TestP13RulesAreKept(t *testing.T) {
	r := newChance(70)
	for range 200 {
		plain := chanceRules(r)
		rules, k := roomyRules(plain), roomyType(typeWithParts(r, plain))
		before := rulesWithRoom(rules) + fmt.Sprint(k, k.Steps[:cap(k.Steps)])
		askReduction(rules, k)
		expect(t, rulesWithRoom(rules)+fmt.Sprint(k, k.Steps[:cap(k.Steps)]), before, "arguments and the room behind them")
	}
	for label, x := range notRules(t) {
		rules, k := roomyRules([]impl.Rule{x, rule(t, "good: FB -> F")}), roomyType(kinType(t, "FB"))
		before := rulesWithRoom(rules)
		askReduction(rules, k)
		expect(t, rulesWithRoom(rules) == before, true, "%s", label)
	}
}

// writeSteps writes marks of its own into each list, with the room behind it, and tells whether all of them are found again.
func writeSteps(lists [][]impl.Step) bool {
	for i, list := range lists {
		for j := range list[:cap(list)] {
			list[:cap(list)][j] = impl.Step{Kind: 100 + i, Age: j}
		}
	}
	for i, list := range lists {
		for j, s := range list[:cap(list)] {
			if s != (impl.Step{Kind: 100 + i, Age: j}) {
				return false
			}
		}
	}
	return true
}

func TestP13ReductionsAreNew(t *testing.T) {
	r := newChance(71)
	for range 300 {
		rules := chanceRules(r)
		k := typeWithParts(r, rules)
		if r.IntN(4) == 0 {
			k = kinType(t, "m:.")
		}
		before := fmt.Sprint(rules, k)
		results := askReduction(rules, k)
		want := fmt.Sprint(results)
		lists := [][]impl.Step{}
		for _, u := range results {
			lists = append(lists, u.Steps)
		}
		expect(t, writeSteps(lists), true, "results that share no memory, for %s", before)
		expect(t, fmt.Sprint(rules, k), before, "the arguments after the results were changed")
		expect(t, fmt.Sprint(askReduction(rules, k)), want, "the results after others were changed")
	}
}

func TestP13RulesThatAreReadAreNew(t *testing.T) {
	ask := func() []impl.Rule {
		list := append(ruleList(t, "a: FB -> F; a: FB -> F; b: HW -> ."), impl.SampleRules("merging")...)
		return slices.Concat(list, impl.SampleRules("skewing"), impl.SampleRules("generation"), impl.SampleRules("skewing"))
	}
	rules := ask()
	want := fmt.Sprint(rules)
	lists := [][]impl.Step{}
	for _, r := range rules {
		lists = append(lists, r.From, r.To)
	}
	expect(t, writeSteps(lists), true, "rules that share no memory")
	for _, name := range []string{"merging", "skewing", "generation"} {
		list := impl.SampleRules(name)
		clear(list[:cap(list)])
	}
	expect(t, fmt.Sprint(ask()), want, "the rules after others were changed")
	lines := impl.TraceReduction(impl.SampleRules("merging"), kinType(t, "FBS"))
	clear(lines[:cap(lines)])
	expect(t, len(impl.TraceReduction(impl.SampleRules("merging"), kinType(t, "FBS"))), 3, "TraceReduction after its result was changed")
}

func junkRule(r *rand.Rand, i int) impl.Rule {
	numbers := []int{lowest, -1, 0, 1, 2, 3, 4, highest}
	number := func() int { return numbers[r.IntN(len(numbers))] }
	x := chanceRule(r, i)
	switch r.IntN(9) {
	case 0:
		x.Name = []string{"", "A", "\xff", "a b", "thirteenbytes"}[r.IntN(5)]
	case 1:
		x.Sex = number()
	case 2:
		x.Place = number()
	case 3:
		x.From = junkType(r).Steps
	case 4:
		x.To = junkType(r).Steps
	case 5:
		x.From[0].Age = number()
	case 6:
		x.From, x.To = x.To, x.From
	}
	return x
}

// TestP13RulesNoPanic gives functions rules, types and places that are far from valid.
func TestP13RulesNoPanic(t *testing.T) {
	r := newChance(72)
	valid := 0
	for range 3000 {
		rules := []impl.Rule{}
		for i := range r.IntN(5) {
			rules = append(rules, junkRule(r, i))
		}
		k := junkType(r)
		if r.IntN(2) == 0 {
			k = typeWithParts(r, impl.SampleRules("generation"))
		}
		for _, x := range rules {
			expect(t, impl.IsRule(x), wantRule(x), "IsRule %v", x)
			expect(t, impl.FormatRule(x), wantRuleText(x), "FormatRule %v", x)
		}
		if wantRules(rules) {
			valid++
		}
		expect(t, impl.AreRules(rules), wantRules(rules), "AreRules %v", rules)
		for _, u := range askReduction(rules, k) {
			expect(t, wantType(u), true, "a result for %v and %v", rules, k)
		}
		checkReduction(t, rules, k)
		n := []int{lowest, -1, 0, 1, 2, 4, highest}[r.IntN(7)]
		expect(t, impl.IsConfluent(rules, n), wantConfluent(rules, n), "IsConfluent %v up to %d", rules, n)
	}
	if valid < 500 || valid > 2500 {
		t.Errorf("%d lists are valid", valid)
	}
}

func TestP13RuleTextsNoPanic(t *testing.T) {
	r := newChance(73)
	parts := []string{"a", "fb", ": ", " -> ", "m:", "w:", "^", "$", "F", "eB", "B", "S", ".", "e", " ", "-", "\xff", "\n", "H"}
	for range 20000 {
		text := ""
		for range r.IntN(10) {
			text += parts[r.IntN(len(parts))]
		}
		x, ok := impl.ParseRule(text)
		if ok && wantRuleText(x) != text || !ok && !isZeroRule(x) {
			t.Errorf("ParseRule %q: %v, %v", text, x, ok)
		}
	}
}

func TestP13ReductionIsTheSameEachTime(t *testing.T) {
	r := newChance(74)
	for range 100 {
		rules := chanceRules(r)
		k := typeWithParts(r, rules)
		expect(t, askReduction(roomyRules(rules), roomyType(k)), askReduction(rules, k), "types")
		expect(t, impl.TraceReduction(roomyRules(rules), roomyType(k)), impl.TraceReduction(rules, k), "traces")
	}
}

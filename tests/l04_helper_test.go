package tests

import (
	"fmt"
	"math/rand/v2"
	"slices"
	"strings"
	"testing"

	"loop.example/g03221/impl"
)

// The functions below say again, in the plainest way, what the document says of rules and reduction.

func wantRule(r impl.Rule) bool {
	if !wantName(r.Name) || r.Sex < 0 || r.Sex > 2 || r.Place < 0 || r.Place > 2 {
		return false
	}
	if len(r.From) < 1 || len(r.From) > 4 || len(r.To) > len(r.From) {
		return false
	}
	if len(r.To) == len(r.From) && !wantBefore(r.To, r.From) {
		return false
	}
	possible := false
	for sex := 1; sex <= 2; sex++ {
		from, to := impl.KinType{Ego: sex, Steps: r.From}, impl.KinType{Ego: sex, Steps: r.To}
		if r.Sex == 3-sex || !wantType(from) {
			continue
		}
		possible = true
		if !wantType(to) || wantSex(to) != wantSex(from) {
			return false
		}
	}
	return possible
}

// wantBefore compares two lists of the same length.
func wantBefore(a []impl.Step, b []impl.Step) bool {
	for i := range a {
		if a[i].Kind != b[i].Kind {
			return a[i].Kind < b[i].Kind
		}
		if a[i].Age != b[i].Age {
			return a[i].Age < b[i].Age
		}
	}
	return false
}

func wantRules(rules []impl.Rule) bool {
	names := map[string]bool{}
	for _, r := range rules {
		if !wantRule(r) {
			return false
		}
		names[r.Name] = true
	}
	return len(rules) <= 12 && len(names) == len(rules)
}

func wantRuleText(r impl.Rule) string {
	if !wantRule(r) {
		return ""
	}
	from, to := wantTypeText(impl.KinType{Steps: r.From}), wantTypeText(impl.KinType{Steps: r.To})
	sex, first, last := []string{"", "m:", "w:"}[r.Sex], []string{"", "^", ""}[r.Place], []string{"", "", "$"}[r.Place]
	return r.Name + ": " + sex + first + from + last + " -> " + to
}

func wantFits(r impl.Rule, k impl.KinType, i int) bool {
	return wantRule(r) && wantType(k) && wantPlaced(r, k, i)
}

// wantPlaced is asked for rules and types that are valid.
func wantPlaced(r impl.Rule, k impl.KinType, i int) bool {
	n := len(r.From)
	if i < 0 || i > len(k.Steps) || i+n > len(k.Steps) {
		return false
	}
	if r.Place == impl.PlaceFirst && i > 0 || r.Place == impl.PlaceLast && i+n < len(k.Steps) {
		return false
	}
	for j := range n {
		if k.Steps[i+j].Kind != r.From[j].Kind {
			return false
		}
		if r.From[j].Age != 0 && k.Steps[i+j].Age != r.From[j].Age {
			return false
		}
	}
	maker := wantSex(impl.KinType{Ego: wantEgo(k), Steps: k.Steps[:i]})
	return r.Sex == 0 || r.Sex == maker
}

func wantReplaced(r impl.Rule, k impl.KinType, i int) impl.KinType {
	u := impl.KinType{Ego: wantEgo(k)}
	for j, s := range k.Steps {
		if j == i {
			u.Steps = append(u.Steps, r.To...)
		}
		if j < i || j >= i+len(r.From) {
			u.Steps = append(u.Steps, s)
		}
	}
	return u
}

func wantReducts(rules []impl.Rule, k impl.KinType) []impl.KinType {
	if !wantRules(rules) || !wantType(k) {
		return nil
	}
	return wantResults(rules, k)
}

func wantResults(rules []impl.Rule, k impl.KinType) []impl.KinType {
	list := []impl.KinType{}
	for i := range k.Steps {
		for _, r := range rules {
			if !wantPlaced(r, k, i) {
				continue
			}
			u := wantReplaced(r, k, i)
			if !slices.ContainsFunc(list, func(x impl.KinType) bool { return isSameType(x, u) }) {
				list = append(list, u)
			}
		}
	}
	return list
}

// wantRewritten returns the result, the rule and the place of the first replacement, or a rule of -1.
func wantRewritten(rules []impl.Rule, k impl.KinType) (impl.KinType, int, int) {
	if !wantRules(rules) || !wantType(k) {
		return impl.KinType{}, -1, 0
	}
	return wantFirst(rules, k)
}

// wantFirst is asked for rules and types that are valid.
func wantFirst(rules []impl.Rule, k impl.KinType) (impl.KinType, int, int) {
	for i := range k.Steps {
		for j, r := range rules {
			if wantPlaced(r, k, i) {
				return wantReplaced(r, k, i), j, i
			}
		}
	}
	return impl.KinType{}, -1, 0
}

// wantTrace returns the normal form and the lines of the way to it.
func wantTrace(rules []impl.Rule, k impl.KinType) (impl.KinType, []string) {
	if !wantRules(rules) || !wantType(k) {
		return impl.KinType{}, nil
	}
	lines := []string{wantTypeText(k)}
	for {
		u, j, _ := wantRewritten(rules, k)
		if j == -1 {
			return k, lines
		}
		k = u
		lines = append(lines, rules[j].Name+" "+wantTypeText(k))
	}
}

// wantReachable collects the types that can be reached, by their texts: all of them, or more than 500.
func wantReachable(rules []impl.Rule, k impl.KinType, reached map[string]impl.KinType) {
	if _, ok := reached[wantTypeText(k)]; ok || len(reached) > 500 {
		return
	}
	reached[wantTypeText(k)] = k
	for _, u := range wantResults(rules, k) {
		wantReachable(rules, u, reached)
	}
}

func wantNormalForms(rules []impl.Rule, k impl.KinType) ([]impl.KinType, bool) {
	if !wantRules(rules) || !wantType(k) {
		return nil, false
	}
	reached := map[string]impl.KinType{}
	wantReachable(rules, k, reached)
	if len(reached) > 500 {
		return nil, false
	}
	list := []impl.KinType{}
	for _, u := range reached {
		if len(wantResults(rules, u)) == 0 {
			list = append(list, u)
		}
	}
	slices.SortFunc(list, func(a, b impl.KinType) int { return strings.Compare(digitsOf(a), digitsOf(b)) })
	return list, true
}

// digitsOf has the number of steps, and then the kind and the age of each step: valid types are ordered as these texts are.
func digitsOf(k impl.KinType) string {
	text := fmt.Sprint(len(k.Steps))
	for _, s := range k.Steps {
		text += fmt.Sprint(s.Kind*10 + s.Age + 100)
	}
	return text
}

func wantConfluent(rules []impl.Rule, n int) bool {
	if !wantRules(rules) || n < 1 || n > 3 {
		return false
	}
	for ego := 1; ego <= 2; ego++ {
		for _, k := range wantTypesFrom(ego, n) {
			if forms, ok := wantNormalForms(rules, k); !ok || len(forms) != 1 {
				return false
			}
		}
	}
	return true
}

// Rules that are written, made by chance, and made wrong.

func rule(t *testing.T, text string) impl.Rule {
	t.Helper()
	r, ok := impl.ParseRule(text)
	if !ok {
		t.Fatalf("ParseRule refuses %q", text)
	}
	return r
}

// ruleList reads rules that are separated by semicolons.
func ruleList(t *testing.T, texts string) []impl.Rule {
	t.Helper()
	list := []impl.Rule{}
	for _, text := range strings.Split(texts, "; ") {
		if text != "" {
			list = append(list, rule(t, text))
		}
	}
	return list
}

func isSameRule(r impl.Rule, s impl.Rule) bool {
	return r.Name == s.Name && r.Sex == s.Sex && r.Place == s.Place && slices.Equal(r.From, s.From) && slices.Equal(r.To, s.To)
}

func isZeroRule(r impl.Rule) bool { return isSameRule(r, impl.Rule{}) }

func chanceSteps(r *rand.Rand, n int) []impl.Step {
	list := []impl.Step{}
	for range n {
		list = append(list, allSteps()[r.IntN(12)])
	}
	return list
}

// chanceRule makes rules that apply often: most parts are short and lack an age.
func chanceRule(r *rand.Rand, i int) impl.Rule {
	for {
		x := impl.Rule{Name: chanceName(r, i), Sex: max(0, r.IntN(5)-2), Place: max(0, r.IntN(6)-3)}
		x.From = chanceSteps(r, 1+min(r.IntN(3), r.IntN(4), r.IntN(4)))
		x.To = chanceSteps(r, r.IntN(len(x.From)+1))
		for j := range x.From {
			if r.IntN(2) == 0 {
				x.From[j].Age = 0
			}
		}
		if wantRule(x) {
			return x
		}
	}
}

func chanceRules(r *rand.Rand) []impl.Rule {
	list := []impl.Rule{}
	for i := range r.IntN(13) {
		list = append(list, chanceRule(r, i))
	}
	return list
}

// typeWithParts has many steps of the parts that the rules replace.
func typeWithParts(r *rand.Rand, rules []impl.Rule) impl.KinType {
	k := chanceType(r, r.IntN(3))
	for range 6 {
		part := chanceSteps(r, 1)
		if len(rules) > 0 {
			part = rules[r.IntN(len(rules))].From
		}
		u := impl.KinType{Ego: k.Ego, Steps: slices.Concat(k.Steps, part)}
		if wantType(u) {
			k = u
		}
	}
	return k
}

// countdown has rules that count down in digits, from S over yB, eB and B to F: reduction takes very many steps.
func countdown(t *testing.T) []impl.Rule {
	return ruleList(t, "da: S$ -> yB; db: yB$ -> eB; dc: eB$ -> B; dd: B$ -> F; ba: SF -> yBS; bb: yBF -> eBS; bc: eBF -> BS; bd: BF -> FS")
}

// notRules returns rules that are not valid, with what is wrong about each of them.
func notRules(t *testing.T) map[string]impl.Rule {
	base := func(change func(r *impl.Rule)) impl.Rule {
		r := rule(t, "fb: FB -> F")
		change(&r)
		return r
	}
	list := map[string]impl.Rule{
		"the zero value":     {},
		"no name":            base(func(r *impl.Rule) { r.Name = "" }),
		"a long name":        base(func(r *impl.Rule) { r.Name = "abcdefghijklm" }),
		"a name with spaces": base(func(r *impl.Rule) { r.Name = "a b" }),
		"a capital":          base(func(r *impl.Rule) { r.Name = "Fb" }),
		"Sex -1":             base(func(r *impl.Rule) { r.Sex = -1 }),
		"Sex 3":              base(func(r *impl.Rule) { r.Sex = 3 }),
		"the highest Sex":    base(func(r *impl.Rule) { r.Sex = highest }),
		"Place -1":           base(func(r *impl.Rule) { r.Place = -1 }),
		"Place 3":            base(func(r *impl.Rule) { r.Place = 3 }),
		"the lowest Place":   base(func(r *impl.Rule) { r.Place = lowest }),
		"From without steps": base(func(r *impl.Rule) { r.From = nil }),
		"nothing":            base(func(r *impl.Rule) { r.From, r.To = nil, nil }),
		"very many steps":    base(func(r *impl.Rule) { r.From = slices.Repeat(r.To, 100000) }),
		"many steps instead": base(func(r *impl.Rule) { r.To = slices.Repeat(r.To, 100000) }),
		"a kind 0":           base(func(r *impl.Rule) { r.From[1].Kind = 0 }),
		"a kind 9":           base(func(r *impl.Rule) { r.From[1].Kind = 9 }),
		"a kind -1 in To":    base(func(r *impl.Rule) { r.To[0].Kind = -1 }),
		"a kind 0 in To":     base(func(r *impl.Rule) { r.To = []impl.Step{{}, {Kind: impl.StepFather}} }),
		"the lowest kind":    base(func(r *impl.Rule) { r.To = []impl.Step{{Kind: lowest}, {Kind: impl.StepFather}} }),
		"an age 3":           base(func(r *impl.Rule) { r.From[1].Age = 3 }),
		"an age -1 in To":    base(func(r *impl.Rule) { r.To = []impl.Step{{Kind: 3, Age: -1}} }),
		"an elder father":    base(func(r *impl.Rule) { r.To[0].Age = impl.Elder }),
	}
	for text, parts := range wrongParts(t) {
		list[text] = impl.Rule{Name: "a", Sex: parts[0].Ego, From: parts[0].Steps, To: parts[1].Steps}
	}
	return list
}

// wrongParts has the steps From, with Sex as Ego, and To of rules that are not valid for the sake of these steps.
func wrongParts(t *testing.T) map[string][2]impl.KinType {
	list := map[string][2]impl.KinType{}
	for _, text := range []string{
		"FFFFF F", "F FF", "FB FFB", // more than MaxPart steps; more steps than before
		"FB FB", "F F", "eB eB", "FB FeB", "FB FyB", "eB yB", "FF MF", "B S", "F B", "m:FFFF FFFB", // as many, but not before
		"FB M", "FZ F", "BZ B", "F .", "w:FS .", "m:FZ .", "H .", "W .", "m:FD .", "BS Z", "HW H", "m:W .", // another sex
		"FS .", "FD .", "MB .", "ZZ .", // with the sex of ego for one of the sexes only
		"FH F", "w:W .", "m:H .", "m:HF F", "w:WB B", "MW M", "HH H", "WW W", // From is not valid
		"FB H", "MS H", "m:FB H", "w:FZ W", "FD W", "WD HD", "FBS HB", "MFS HHS", // To is not valid
	} {
		from, to, _ := strings.Cut(text, " ")
		list[text] = [2]impl.KinType{looseType(from), looseType(to)}
	}
	return list
}

// looseType reads types that need not be valid.
func looseType(text string) impl.KinType {
	k, rest := impl.KinType{}, text
	if len(text) > 1 && text[1] == ':' {
		k.Ego, rest = strings.IndexByte("-mw", text[0]), text[2:]
	}
	age := 0
	for _, letter := range strings.TrimSuffix(rest, ".") {
		if letter == 'e' || letter == 'y' {
			age = 1 + strings.IndexRune("ey", letter)
			continue
		}
		k.Steps = append(k.Steps, impl.Step{Kind: 1 + strings.IndexRune(letters, letter), Age: age})
		age = 0
	}
	return k
}

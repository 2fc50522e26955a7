package tests

import (
	"slices"
	"strings"
	"testing"

	"loop.example/g03221/impl"
)

func TestP13IsType(t *testing.T) {
	for _, text := range []string{".", "m:.", "w:.", "H", "W", "m:W", "w:H", "HW", "WH", "FW", "MH", "BW", "ZH", "SW", "DH", "eByZ", "m:FFFFFFFF", "w:HWHWHWHW"} {
		expect(t, impl.IsType(kinType(t, text)), true, "IsType %s", text)
	}
	for label, k := range notTypes() {
		expect(t, impl.IsType(k), false, "IsType: %s", label)
		expect(t, wantType(k), false, "the test's own rules: %s", label)
	}
}

// TestP13IsTypeOfAllSteps tries every Ego, Kind and Age, and some that are none, in types of at most two steps.
func TestP13IsTypeOfAllSteps(t *testing.T) {
	steps := []impl.Step{}
	for kind := -1; kind <= 10; kind++ {
		for age := -1; age <= 3; age++ {
			steps = append(steps, impl.Step{Kind: kind, Age: age})
		}
	}
	for ego := -1; ego <= 3; ego++ {
		check := func(list ...impl.Step) {
			k := impl.KinType{Ego: ego, Steps: list}
			expect(t, impl.IsType(k), wantType(k), "IsType %v", k)
			expect(t, impl.EgoOfType(k), wantEgo(k), "EgoOfType %v", k)
			expect(t, impl.SexOfType(k), wantSex(k), "SexOfType %v", k)
		}
		check()
		for _, s := range steps {
			check(s)
			for _, u := range steps {
				check(s, u)
			}
		}
	}
}

func TestP13IsTypeByChance(t *testing.T) {
	r := newChance(43)
	valid := 0
	for range 5000 {
		k := chanceType(r, r.IntN(9))
		if len(k.Steps) > 0 && r.IntN(3) > 0 {
			k.Steps[r.IntN(len(k.Steps))] = impl.Step{Kind: r.IntN(10), Age: r.IntN(3)}
		}
		if r.IntN(4) == 0 {
			k.Steps = append(k.Steps, impl.Step{Kind: 1 + r.IntN(8)})
		}
		expect(t, impl.IsType(k), wantType(k), "IsType %v", k)
		expect(t, impl.FormatType(k), wantTypeText(k), "FormatType %v", k)
		expect(t, impl.EgoOfType(k), wantEgo(k), "EgoOfType %v", k)
		expect(t, impl.SexOfType(k), wantSex(k), "SexOfType %v", k)
		if wantType(k) {
			valid++
		}
	}
	if valid < 500 || valid > 4500 {
		t.Errorf("%d of the types are valid", valid)
	}
}

func TestP13EqualTypes(t *testing.T) {
	k := kinType(t, "m:FeZ")
	expect(t, impl.EqualTypes(k, kinType(t, "m:FeZ")), true, "equal")
	expect(t, impl.EqualTypes(impl.KinType{}, impl.KinType{Steps: []impl.Step{}}), true, "nil and empty steps")
	for _, text := range []string{"FeZ", "w:FeZ", "m:FZ", "m:FyZ", "m:FeB", "m:F", "m:FeZF", "m:MeZ", "m:.", "."} {
		u := kinType(t, text)
		expect(t, impl.EqualTypes(k, u) || impl.EqualTypes(u, k), false, "EqualTypes %s", text)
	}
	for label, k := range notTypes() {
		u := impl.KinType{Ego: k.Ego, Steps: slices.Clone(k.Steps)}
		expect(t, impl.EqualTypes(k, u), true, "EqualTypes: %s", label)
		u.Ego++
		expect(t, impl.EqualTypes(k, u), false, "EqualTypes, another Ego: %s", label)
		u = impl.KinType{Ego: k.Ego, Steps: append(slices.Clone(k.Steps), impl.Step{})}
		expect(t, impl.EqualTypes(k, u) || impl.EqualTypes(u, k), false, "EqualTypes, another step: %s", label)
	}
}

func TestP13SexesOfTypes(t *testing.T) {
	cases := map[string][]int{
		".": {0, 0}, "m:.": {1, 1}, "w:.": {2, 2},
		"F": {0, 1}, "M": {0, 2}, "eB": {0, 1}, "yZ": {0, 2}, "S": {0, 1}, "D": {0, 2}, "H": {2, 1}, "W": {1, 2},
		"m:M": {1, 2}, "w:F": {2, 1}, "w:H": {2, 1}, "m:W": {1, 2}, "HW": {2, 2}, "WH": {1, 1}, "FW": {0, 2}, "MH": {0, 1}, "w:FZD": {2, 2},
	}
	for text, want := range cases {
		k := kinType(t, text)
		expect(t, []int{impl.EgoOfType(k), impl.SexOfType(k)}, want, "sexes of %s", text)
	}
	for label, k := range notTypes() {
		expect(t, impl.EgoOfType(k), 0, "EgoOfType: %s", label)
		expect(t, impl.SexOfType(k), 0, "SexOfType: %s", label)
	}
}

// checkTypeText: the type with this text, or false if there is no text.
func checkTypeText(t *testing.T, k impl.KinType, ok bool, want string, label string, args ...any) {
	t.Helper()
	got := wantTypeText(k)
	if ok && got == "" {
		got = "a type that is not valid"
	}
	if !ok && isZeroType(k) {
		got = ""
	}
	if !ok && !isZeroType(k) {
		got = "not the zero value"
	}
	expect(t, got, want, label, args...)
}

func TestP13JoinTypes(t *testing.T) {
	cases := [][3]string{
		{"F", "Z", "FZ"}, {"m:F", "Z", "m:FZ"}, {"m:FZ", "D", "m:FZD"}, {"F", "m:eZ", "FeZ"}, {"w:M", "w:yB", "w:MyB"},
		{".", ".", "."}, {".", "F", "F"}, {"F", ".", "F"}, {".", "w:F", "w:F"}, {".", "m:.", "m:."}, {"m:.", ".", "m:."}, {"m:.", "F", "m:F"}, {"m:.", "m:F", "m:F"},
		{"F", "m:.", "F"}, {"w:F", "m:.", "w:F"}, {".", "H", "H"}, {"w:.", "H", "w:H"}, {"M", "H", "MH"}, {"H", "W", "HW"}, {"H", "m:W", "HW"},
		{"F", "w:Z", ""}, {"M", "m:B", ""}, {"m:.", "w:F", ""}, {"w:.", "m:.", ""}, {"m:.", "w:.", ""}, {"w:.", "m:F", ""}, {"H", "w:.", ""},
		{"F", "H", ""}, {"M", "W", ""}, {"m:.", "H", ""}, {"w:.", "W", ""}, {"H", "H", ""}, {"W", "W", ""},
		{"FFFF", "MMMM", "FFFFMMMM"}, {"FFFF", "MMMMM", ""}, {"FFFFFFFF", "M", ""}, {"F", "MMMMMMMM", ""}, {"FFFFFFFF", ".", "FFFFFFFF"}, {".", "m:FFFFFFFF", "m:FFFFFFFF"}, {"FFFFFFFF", "MMMMMMMM", ""},
	}
	for _, c := range cases {
		k, ok := impl.JoinTypes(kinType(t, c[0]), kinType(t, c[1]))
		checkTypeText(t, k, ok, c[2], "JoinTypes %s %s", c[0], c[1])
	}
	for label, k := range notTypes() {
		for _, u := range []impl.KinType{{}, kinType(t, "F"), kinType(t, "w:.")} {
			joined, ok := impl.JoinTypes(k, u)
			checkTypeText(t, joined, ok, "", "JoinTypes, first: %s", label)
			joined, ok = impl.JoinTypes(u, k)
			checkTypeText(t, joined, ok, "", "JoinTypes, second: %s", label)
		}
	}
	// The steps alone would be valid behind a son, but the second type is not.
	joined, ok := impl.JoinTypes(kinType(t, "S"), impl.KinType{Ego: impl.Woman, Steps: []impl.Step{{Kind: impl.StepWife}}})
	checkTypeText(t, joined, ok, "", "JoinTypes with a second part that is not valid")
}

func TestP13JoinTypesByChance(t *testing.T) {
	r := newChance(44)
	short := typesUpTo(1)
	for _, k := range short {
		for _, u := range short {
			checkJoined(t, k, u)
		}
	}
	for range 5000 {
		checkJoined(t, chanceType(r, r.IntN(7)), chanceType(r, r.IntN(7)))
	}
}

func checkJoined(t *testing.T, k impl.KinType, u impl.KinType) {
	t.Helper()
	joined, ok := impl.JoinTypes(k, u)
	want, wantOk := wantJoin(k, u)
	if ok != wantOk || !isSameType(joined, want) {
		t.Errorf("JoinTypes %v %v: got %v, %v, want %v, %v", k, u, joined, ok, want, wantOk)
	}
}

func TestP13ReverseType(t *testing.T) {
	cases := map[string]string{
		".": ".", "m:.": "m:.", "w:.": "w:.",
		"m:F": "m:S", "w:F": "m:D", "m:M": "w:S", "w:M": "w:D", "m:S": "m:F", "w:S": "m:M", "m:D": "w:F", "w:D": "w:M",
		"m:B": "m:B", "w:B": "m:Z", "m:Z": "w:B", "w:Z": "w:Z", "m:eB": "m:yB", "w:yB": "m:eZ", "m:eZ": "w:yB", "w:yZ": "w:eZ",
		"w:H": "m:W", "m:W": "w:H", "H": "m:W", "W": "w:H", "HeB": "m:yBW", "WMyB": "m:eZDH",
		"m:FZD": "w:MBS", "w:FMeB": "m:yZSD", "m:FFFFFFFF": "m:SSSSSSSS", "w:MBWZHFMS": "m:MSSWZHZD",
		"F": "", "M": "", "B": "", "eZ": "", "S": "", "D": "", "FW": "", "ZH": "",
	}
	for text, want := range cases {
		back, ok := impl.ReverseType(kinType(t, text))
		checkTypeText(t, back, ok, want, "ReverseType %s", text)
	}
	for label, k := range notTypes() {
		back, ok := impl.ReverseType(k)
		checkTypeText(t, back, ok, "", "ReverseType: %s", label)
	}
}

func TestP13ReverseTypeByChance(t *testing.T) {
	r := newChance(45)
	types := typesUpTo(2)
	for range 5000 {
		types = append(types, chanceType(r, r.IntN(9)))
	}
	for _, k := range types {
		back, ok := impl.ReverseType(k)
		want, wantOk := wantReverse(k)
		if ok != wantOk || !isSameType(back, want) {
			t.Errorf("ReverseType %v: got %v, %v, want %v, %v", k, back, ok, want, wantOk)
		}
	}
}

// namedPairs says between whom a relation of a family leads, as "a b, c d".
func namedPairs(f impl.Family, r impl.Relation) string {
	list := []string{}
	for _, p := range impl.PairsOf(r) {
		list = append(list, f.People[p.A].Name+" "+f.People[p.B].Name)
	}
	return strings.Join(list, ", ")
}

func TestP13StepRelation(t *testing.T) {
	f := parse(t, house)
	cases := map[string]string{
		"F":  "ada adam, cain adam, abel adam, seth adam, zilla adam, tubal cain",
		"M":  "ada eva, cain eva, abel eva, seth lilith, enos lilith, tubal ada",
		"B":  "ada cain, ada abel, cain abel, abel cain",
		"eB": "ada cain, abel cain",
		"yB": "ada abel, cain abel",
		"Z":  "cain ada, abel ada",
		"eZ": "abel ada",
		"yZ": "cain ada",
		"S":  "adam cain, adam abel, adam seth, eva cain, eva abel, lilith seth, lilith enos, ada tubal, cain tubal",
		"D":  "adam ada, adam zilla, eva ada",
		"H":  "eva adam, lilith adam, lilith stranger, ada cain",
		"W":  "adam eva, adam lilith, cain ada, stranger lilith",
	}
	for text, want := range cases {
		k := kinType(t, text)
		got := impl.StepRelation(f, k.Steps[0])
		expect(t, wantRelation(got) && got.Size == len(f.People), true, "StepRelation %s: the relation %v", text, got)
		expect(t, namedPairs(f, got), want, "StepRelation %s", text)
		expect(t, namedPairs(f, impl.RelationFor(f, k)), want, "RelationFor %s", text)
	}
	for label, k := range notTypes() {
		for _, s := range slices.Compact(k.Steps) {
			alone := impl.KinType{Steps: []impl.Step{s}}
			expect(t, isZeroRelation(impl.StepRelation(f, s)), !wantType(alone), "StepRelation %v: %s", s, label)
		}
	}
	none := impl.StepRelation(parse(t, "man a - - 0 -\n"), impl.Step{Kind: impl.StepWife})
	expect(t, isSame(none, impl.EmptyRelation(1)), true, "StepRelation of one person")
	expect(t, isZeroRelation(impl.StepRelation(impl.Family{}, impl.Step{Kind: impl.StepWife})), true, "StepRelation of nobody")
}

func TestP13StepRelationByChance(t *testing.T) {
	r := newChance(46)
	for round := range 60 {
		f := kinFamily(r, r.IntN(41))
		if round%2 == 0 {
			f = chanceFamily(r)
		}
		for kind := -1; kind <= 10; kind++ {
			for age := -1; age <= 3; age++ {
				s := impl.Step{Kind: kind, Age: age}
				want := impl.Relation{}
				if slices.Contains(allSteps(), s) {
					want = wantStepTable(f, s).relation()
				}
				if got := impl.StepRelation(f, s); !isSame(got, want) {
					t.Fatalf("StepRelation %v of %v: got %v, want %v", s, f, got, want)
				}
			}
		}
	}
}

func TestP13RelationFor(t *testing.T) {
	f := parse(t, house)
	cases := map[string]string{
		"m:.":      "adam adam, cain cain, abel abel, seth seth, enos enos, tubal tubal, stranger stranger",
		"w:.":      "eva eva, lilith lilith, ada ada, zilla zilla",
		"m:F":      "cain adam, abel adam, seth adam, tubal cain",
		"w:F":      "ada adam, zilla adam",
		"w:H":      "eva adam, lilith adam, lilith stranger, ada cain",
		"HW":       "eva eva, eva lilith, lilith eva, lilith lilith, ada ada",
		"FB":       "tubal abel",
		"MeB":      "tubal cain",
		"FyB":      "tubal abel",
		"FeB":      "",
		"MZ":       "",
		"BW":       "ada ada, abel ada",
		"m:BW":     "abel ada",
		"FWS":      "ada cain, ada abel, ada seth, ada enos, cain cain, cain abel, cain seth, cain enos, abel cain, abel abel, abel seth, abel enos, seth cain, seth abel, seth seth, seth enos, zilla cain, zilla abel, zilla seth, zilla enos, tubal tubal",
		"m:MHM":    "tubal eva",
		"w:HWHWHW": "eva eva, eva lilith, lilith eva, lilith lilith, ada ada",
	}
	for text, want := range cases {
		got := impl.RelationFor(f, kinType(t, text))
		expect(t, wantRelation(got) && got.Size == len(f.People), true, "RelationFor %s: the relation %v", text, got)
		expect(t, namedPairs(f, got), want, "RelationFor %s", text)
	}
	expect(t, isSame(impl.RelationFor(f, impl.KinType{}), impl.IdentityRelation(len(f.People))), true, "RelationFor the type without steps")
	for label, k := range notTypes() {
		expect(t, isZeroRelation(impl.RelationFor(f, k)), true, "RelationFor: %s", label)
		for p := range f.People {
			expect(t, len(impl.RelativesOf(f, p, k)), 0, "RelativesOf %d: %s", p, label)
		}
	}
}

func TestP13RelativesOf(t *testing.T) {
	f := parse(t, house)
	expect(t, impl.RelativesOf(f, adam, kinType(t, "S")), []int{cain, abel, seth}, "ascending, not the eldest first")
	expect(t, impl.RelativesOf(f, adam, kinType(t, "D")), []int{ada, zilla}, "daughters")
	expect(t, impl.RelativesOf(f, tubal, kinType(t, "FB")), []int{abel}, "a father's brother")
	expect(t, impl.RelativesOf(f, tubal, kinType(t, "w:FB")), []int{}, "a type for women")
	expect(t, impl.RelativesOf(f, adam, kinType(t, "w:D")), []int{}, "a type for women")
	expect(t, impl.RelativesOf(f, lilith, kinType(t, "HW")), []int{eva, lilith}, "with oneself, and nobody twice")
	expect(t, impl.RelativesOf(f, adam, kinType(t, "WH")), []int{adam, stranger}, "over two wives")
	expect(t, impl.RelativesOf(f, zilla, kinType(t, ".")), []int{zilla}, "no steps")
	expect(t, impl.RelativesOf(f, zilla, kinType(t, "m:.")), []int{}, "no steps, for men")
	expect(t, impl.RelativesOf(f, seth, kinType(t, "B")), []int{}, "half siblings only")
	for _, p := range []int{-1, len(f.People), lowest, highest} {
		expect(t, len(impl.RelativesOf(f, p, impl.KinType{})), 0, "RelativesOf %d", p)
	}
}

func TestP13RelationsOfTypesByChance(t *testing.T) {
	r := newChance(47)
	for range 400 {
		f := kinFamily(r, r.IntN(16))
		k, _ := walkedType(r, f, r.IntN(9))
		if r.IntN(3) == 0 {
			k.Ego = 0
		}
		for _, k := range []impl.KinType{k, chanceType(r, r.IntN(4))} {
			want := wantTable(f, k).relation()
			got := impl.RelationFor(f, k)
			if !isSame(got, want) {
				t.Fatalf("RelationFor %v of %v: got %v, want %v", k, f, got, want)
			}
			for p := range f.People {
				expect(t, impl.RelativesOf(f, p, k), want.Rows[p], "RelativesOf %d %v of %v", p, k, f)
			}
		}
	}
}

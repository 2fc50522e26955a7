package tests

import (
	"math/rand/v2"
	"slices"
	"strings"
	"testing"

	"loop.example/g03221/impl"
)

// The functions below say again, in the plainest way, what the document says of kin types.

const letters = "FMBZSDHW"

func wantType(k impl.KinType) bool {
	if k.Ego < 0 || k.Ego > 2 || len(k.Steps) > 8 {
		return false
	}
	sex := k.Ego
	for _, s := range k.Steps {
		if s.Kind < 1 || s.Kind > 8 || s.Age < 0 || s.Age > 2 {
			return false
		}
		letter := letters[s.Kind-1]
		if s.Age != 0 && letter != 'B' && letter != 'Z' {
			return false
		}
		if letter == 'H' && sex == impl.Man || letter == 'W' && sex == impl.Woman {
			return false
		}
		sex = wantSexOf(s)
	}
	return true
}

func wantSexOf(s impl.Step) int {
	if strings.Contains("FBSH", letters[s.Kind-1:s.Kind]) {
		return impl.Man
	}
	return impl.Woman
}

func wantTypeText(k impl.KinType) string {
	if !wantType(k) {
		return ""
	}
	text := []string{"", "m:", "w:"}[k.Ego]
	if len(k.Steps) == 0 {
		return text + "."
	}
	for _, s := range k.Steps {
		text += []string{"", "e", "y"}[s.Age] + letters[s.Kind-1:s.Kind]
	}
	return text
}

func wantEgo(k impl.KinType) int {
	if !wantType(k) {
		return 0
	}
	if k.Ego == 0 && len(k.Steps) > 0 && k.Steps[0].Kind == impl.StepHusband {
		return impl.Woman
	}
	if k.Ego == 0 && len(k.Steps) > 0 && k.Steps[0].Kind == impl.StepWife {
		return impl.Man
	}
	return k.Ego
}

func wantSex(k impl.KinType) int {
	if !wantType(k) {
		return 0
	}
	if n := len(k.Steps); n > 0 {
		return wantSexOf(k.Steps[n-1])
	}
	return k.Ego
}

func wantJoin(k impl.KinType, u impl.KinType) (impl.KinType, bool) {
	joined := impl.KinType{Ego: k.Ego}
	if k.Ego == 0 && len(k.Steps) == 0 {
		joined.Ego = u.Ego
	}
	joined.Steps = append(append([]impl.Step{}, k.Steps...), u.Steps...)
	clash := u.Ego != 0 && wantSex(k) != 0 && u.Ego != wantSex(k)
	if !wantType(k) || !wantType(u) || clash || !wantType(joined) {
		return impl.KinType{}, false
	}
	return joined, true
}

func wantReverse(k impl.KinType) (impl.KinType, bool) {
	if !wantType(k) || wantEgo(k) == 0 && len(k.Steps) > 0 {
		return impl.KinType{}, false
	}
	// Which letter each of FMBZSDHW becomes; a dash where the step is not made from this sex.
	becomes := []string{"", "SSBBFF-H", "DDZZMMW-"}
	back := impl.KinType{Ego: wantSex(k)}
	sex := wantEgo(k)
	for _, s := range k.Steps {
		step := impl.Step{Kind: 1 + strings.IndexByte(letters, becomes[sex][s.Kind-1]), Age: []int{0, 2, 1}[s.Age]}
		back.Steps = append([]impl.Step{step}, back.Steps...)
		sex = wantSexOf(s)
	}
	return back, true
}

func wantStep(f impl.Family, s impl.Step, a int, b int) bool {
	x, y := f.People[a], f.People[b]
	switch letters[s.Kind-1] {
	case 'F':
		return x.Father == b
	case 'M':
		return x.Mother == b
	case 'S', 'D':
		return y.Sex == wantSexOf(s) && (y.Father == a || y.Mother == a)
	case 'H':
		return wantUnited(f, b, a)
	case 'W':
		return wantUnited(f, a, b)
	}
	age := s.Age == 0 || s.Age == 1 && wantElder(f, b, a) || s.Age == 2 && wantElder(f, a, b)
	return y.Sex == wantSexOf(s) && wantFull(f, a, b) && age
}

func wantUnited(f impl.Family, man int, woman int) bool {
	for _, u := range f.Unions {
		if u.Man == man && u.Woman == woman {
			return true
		}
	}
	return false
}

func wantStepTable(f impl.Family, s impl.Step) table {
	return tableBy(len(f.People), func(a int, b int) bool { return wantStep(f, s, a, b) })
}

// wantTable says between whom a type leads.
func wantTable(f impl.Family, k impl.KinType) table {
	m := tableBy(len(f.People), func(a int, b int) bool {
		return a == b && (k.Ego == 0 || f.People[a].Sex == k.Ego)
	})
	for _, s := range k.Steps {
		m = wantComposed(m, wantStepTable(f, s))
	}
	return m
}

// kindTables has the tables of the eight kinds of steps, with AnyAge, at the places of their letters.
func kindTables(f impl.Family) []table {
	list := []table{}
	for kind := 1; kind <= 8; kind++ {
		list = append(list, wantStepTable(f, impl.Step{Kind: kind}))
	}
	return list
}

// wantShortest returns the texts of the shortest types from a to each person, or the empty text.
// Of all ways with the same number of steps, written in the digits of their kinds, it keeps the least for each person.
func wantShortest(f impl.Family, tables []table, a int) []string {
	found := make([]string, len(f.People))
	found[a] = "."
	ways := map[int]string{a: ""}
	for range 8 {
		next := map[int]string{}
		for b, way := range ways {
			for c := range f.People {
				for i := range letters {
					longer := way + "12345678"[i:i+1]
					if old, ok := next[c]; tables[i][b][c] && (!ok || longer < old) {
						next[c] = longer
					}
				}
			}
		}
		for c, way := range next {
			if found[c] == "" {
				found[c] = way
			}
		}
		ways = next
	}
	spell := strings.NewReplacer("1", "F", "2", "M", "3", "B", "4", "Z", "5", "S", "6", "D", "7", "H", "8", "W")
	for b, way := range found {
		if way != "" {
			found[b] = []string{"", "m:", "w:"}[f.People[a].Sex] + spell.Replace(way)
		}
	}
	return found
}

// wantTypesFrom counts through all lists of kinds, written as numbers with digits from 1 to 8.
func wantTypesFrom(ego int, n int) []impl.KinType {
	list := []impl.KinType{}
	for length := 1; length <= n; length++ {
		for number := range 1 << (3 * length) {
			k := impl.KinType{Ego: ego}
			for place := length - 1; place >= 0; place-- {
				k.Steps = append(k.Steps, impl.Step{Kind: 1 + number>>(3*place)&7})
			}
			if wantType(k) {
				list = append(list, k)
			}
		}
	}
	return list
}

// allSteps has the twelve steps that are valid.
func allSteps() []impl.Step {
	list := []impl.Step{}
	for kind := 1; kind <= 8; kind++ {
		list = append(list, impl.Step{Kind: kind})
		if kind == impl.StepBrother || kind == impl.StepSister {
			list = append(list, impl.Step{Kind: kind, Age: impl.Elder}, impl.Step{Kind: kind, Age: impl.Younger})
		}
	}
	return list
}

// typesUpTo has all valid types of at most n steps, of every Ego and age.
func typesUpTo(n int) []impl.KinType {
	last := []impl.KinType{{}, {Ego: impl.Man}, {Ego: impl.Woman}}
	list := slices.Clone(last)
	for range n {
		longer := []impl.KinType{}
		for _, k := range last {
			for _, s := range allSteps() {
				u := impl.KinType{Ego: k.Ego, Steps: append(slices.Clone(k.Steps), s)}
				if wantType(u) {
					longer = append(longer, u)
				}
			}
		}
		list = append(list, longer...)
		last = longer
	}
	return list
}

func chanceType(r *rand.Rand, steps int) impl.KinType {
	k := impl.KinType{Ego: r.IntN(3)}
	for len(k.Steps) < steps {
		u := impl.KinType{Ego: k.Ego, Steps: append(slices.Clone(k.Steps), allSteps()[r.IntN(12)])}
		if wantType(u) {
			k = u
		}
	}
	return k
}

// walkedType is the type of a way by chance through a family, so that it leads to somebody.
func walkedType(r *rand.Rand, f impl.Family, steps int) (impl.KinType, int) {
	if len(f.People) == 0 {
		return impl.KinType{}, -1
	}
	start := r.IntN(len(f.People))
	k, at := impl.KinType{Ego: f.People[start].Sex}, start
	for range steps {
		ends, ways := []int{}, []impl.Step{}
		for _, s := range allSteps() {
			for b := range f.People {
				if wantStep(f, s, at, b) {
					ends, ways = append(ends, b), append(ways, s)
				}
			}
		}
		if len(ends) == 0 {
			break
		}
		i := r.IntN(len(ends))
		k.Steps = append(k.Steps, ways[i])
		at = ends[i]
	}
	return k, start
}

// notTypes returns types that are not valid, with what is wrong about each of them.
func notTypes() map[string]impl.KinType {
	steps := func(kinds ...int) []impl.Step {
		list := []impl.Step{}
		for _, kind := range kinds {
			list = append(list, impl.Step{Kind: kind})
		}
		return list
	}
	return map[string]impl.KinType{
		"Ego -1":                     {Ego: -1},
		"Ego 3":                      {Ego: 3, Steps: steps(1)},
		"the lowest Ego":             {Ego: lowest},
		"the highest Ego":            {Ego: highest, Steps: steps(1)},
		"Kind 0":                     {Steps: steps(0)},
		"Kind -1":                    {Ego: 1, Steps: steps(1, -1)},
		"Kind 9":                     {Ego: 1, Steps: steps(9)},
		"Kind 9 after a step":        {Steps: steps(2, 9)},
		"the lowest Kind":            {Steps: steps(1, lowest, 1)},
		"the highest Kind":           {Steps: steps(highest)},
		"nine steps":                 {Ego: 2, Steps: steps(1, 1, 1, 1, 1, 1, 1, 1, 1)},
		"very many steps":            {Steps: slices.Repeat(steps(1), 100000)},
		"Age -1":                     {Steps: []impl.Step{{Kind: 3, Age: -1}}},
		"Age 3":                      {Steps: []impl.Step{{Kind: 4, Age: 3}}},
		"the highest Age":            {Steps: []impl.Step{{Kind: 3, Age: highest}}},
		"an elder father":            {Steps: []impl.Step{{Kind: 1, Age: 1}}},
		"a younger mother":           {Steps: []impl.Step{{Kind: 2, Age: 2}}},
		"an elder son":               {Steps: []impl.Step{{Kind: 5, Age: 1}}},
		"a younger daughter":         {Steps: []impl.Step{{Kind: 6, Age: 2}}},
		"an elder husband":           {Ego: 2, Steps: []impl.Step{{Kind: 7, Age: 1}}},
		"a younger wife":             {Ego: 1, Steps: []impl.Step{{Kind: 8, Age: 2}}},
		"a man's husband":            {Ego: 1, Steps: steps(7)},
		"a woman's wife":             {Ego: 2, Steps: steps(8)},
		"a father's husband":         {Steps: steps(1, 7)},
		"a mother's wife":            {Ego: 1, Steps: steps(2, 8)},
		"a brother's husband":        {Steps: steps(3, 7)},
		"a sister's wife":            {Ego: 2, Steps: steps(4, 8)},
		"a son's husband":            {Steps: steps(5, 7)},
		"a daughter's wife":          {Ego: 1, Steps: steps(6, 8)},
		"a husband's husband":        {Steps: steps(7, 7)},
		"a wife's wife":              {Steps: steps(8, 8)},
		"a husband's husband, later": {Ego: 2, Steps: steps(2, 1, 8, 7, 7)},
	}
}

func kinType(t *testing.T, text string) impl.KinType {
	t.Helper()
	k, ok := impl.ParseType(text)
	if !ok {
		t.Fatalf("ParseType refuses %q", text)
	}
	return k
}

func isZeroType(k impl.KinType) bool { return k.Ego == 0 && len(k.Steps) == 0 }

// isSameType compares without the functions that are tested.
func isSameType(k impl.KinType, u impl.KinType) bool {
	return k.Ego == u.Ego && slices.Equal(k.Steps, u.Steps)
}

func textsOf(types []impl.KinType) []string {
	list := []string{}
	for _, k := range types {
		list = append(list, wantTypeText(k))
	}
	return list
}

// kinFamily has at most n persons, who marry and have children more often than those of chanceFamily.
func kinFamily(r *rand.Rand, n int) impl.Family {
	var f impl.Family
	for i := range n {
		p := impl.Person{Name: chanceName(r, i), Sex: 1 + r.IntN(2), Father: -1, Mother: -1, Born: r.IntN(3), Died: -1}
		if len(f.Unions) > 0 && r.IntN(6) > 0 {
			u := f.Unions[r.IntN(len(f.Unions))]
			p.Father, p.Mother = u.Man, u.Woman
			p.Born = 1 + max(f.People[u.Man].Born, f.People[u.Woman].Born) + r.IntN(3)
			if r.IntN(6) == 0 {
				p.Mother = -1
			}
		}
		f.People = append(f.People, p)
		if wantDepth(f, i) > 10 {
			f.People[i].Father, f.People[i].Mother = -1, -1
		}
		for range r.IntN(4) {
			addChanceUnion(r, &f)
		}
	}
	return f
}

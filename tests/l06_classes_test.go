package tests

import (
	"slices"
	"strings"
	"testing"

	"loop.example/g03221/impl"
)

func TestP13ClassConstants(t *testing.T) {
	expect(t, []int{impl.MaxClasses, impl.MaxGroup, impl.MaxRelabeled, impl.MaxRegular}, []int{8, 200, 5, 4}, "limits")
}

// eachShortList gives check all lists of at most four numbers from -1 to 4.
func eachShortList(check func(p []int)) {
	lists := [][]int{{}}
	for range 5 {
		longer := [][]int{}
		for _, p := range lists {
			check(p)
			for x := -1; x <= 4; x++ {
				longer = append(longer, append(slices.Clone(p), x))
			}
		}
		lists = longer
	}
}

func TestP13IsPermutation(t *testing.T) {
	count := 0
	eachShortList(func(p []int) {
		want := wantPermutation(p)
		if want {
			count++
		}
		expect(t, impl.IsPermutation(p), want, "IsPermutation %v", p)
	})
	expect(t, count, 1+1+2+6+24, "permutations of at most four numbers")
	expect(t, impl.IsPermutation(nil), true, "IsPermutation of nil")
	r := newChance(111)
	for _, n := range []int{8, 9, 40, 41, 64, 65, 256, 1000, 100000} {
		expect(t, impl.IsPermutation(r.Perm(n)), true, "IsPermutation of %d numbers", n)
	}
	for label, p := range notPermutations() {
		expect(t, impl.IsPermutation(p), false, "IsPermutation: %s", label)
	}
}

func TestP13InversePermutation(t *testing.T) {
	for text, want := range map[string]string{"": "", "0": "0", "10": "10", "120": "201", "3012": "1230", "20143": "12043", "87654321": "", "012": "012", "021": "021", "11": "", "12": ""} {
		expect(t, permutationText(impl.InversePermutation(digits(text))), want, "InversePermutation %s", text)
	}
	eachShortList(func(p []int) {
		q := impl.InversePermutation(p)
		if !wantPermutation(p) {
			expect(t, len(q), 0, "InversePermutation %v", p)
			return
		}
		for i, x := range p {
			expect(t, q[x], i, "InversePermutation %v", p)
		}
	})
	for label, p := range notPermutations() {
		expect(t, len(impl.InversePermutation(p)), 0, "InversePermutation: %s", label)
	}
	p := newChance(112).Perm(5000)
	for i, x := range impl.InversePermutation(p) {
		expect(t, p[x], i, "InversePermutation of very many")
	}
}

func TestP13ComposePermutations(t *testing.T) {
	cases := []struct{ p, q, want string }{
		{"", "", ""}, {"0", "0", "0"}, {"10", "01", "10"}, {"10", "10", "01"},
		{"120", "102", "021"}, {"102", "120", "210"}, {"1230", "1230", "2301"}, {"3012", "0213", "3021"},
		{"0213", "3012", "3102"}, {"10", "102", ""}, {"102", "10", ""}, {"", "0", ""}, {"0", "", ""},
		{"11", "10", ""}, {"10", "11", ""}, {"22", "22", ""}, {"12", "01", ""}, {"01", "12", ""}, {"123", "012", ""},
	}
	for _, c := range cases {
		expect(t, permutationText(impl.ComposePermutations(digits(c.p), digits(c.q))), c.want, "ComposePermutations %s %s", c.p, c.q)
	}
	r := newChance(113)
	for _, n := range []int{5, 8, 9, 100, 5000} {
		p, q := r.Perm(n), r.Perm(n)
		for i, x := range impl.ComposePermutations(p, q) {
			expect(t, x, q[p[i]], "ComposePermutations of %d numbers", n)
		}
		expect(t, len(impl.ComposePermutations(p, q)), n, "ComposePermutations of %d numbers", n)
		expect(t, len(impl.ComposePermutations(p, r.Perm(n+1))), 0, "ComposePermutations of %d numbers and one more", n)
	}
	for label, p := range notPermutations() {
		good := r.Perm(len(p))
		expect(t, len(impl.ComposePermutations(p, good)), 0, "ComposePermutations, first: %s", label)
		expect(t, len(impl.ComposePermutations(good, p)), 0, "ComposePermutations, second: %s", label)
		expect(t, len(impl.ComposePermutations(p, p)), 0, "ComposePermutations, both: %s", label)
	}
}

func TestP13IsClasses(t *testing.T) {
	r := newChance(114)
	for n := 1; n <= 8; n++ {
		for range 50 {
			expect(t, impl.IsClasses(chanceSystem(r, n)), true, "IsClasses of %d classes", n)
		}
	}
	for label, c := range notSystems() {
		expect(t, impl.IsClasses(c), false, "IsClasses: %s", label)
	}
	lists := [][]int{}
	eachShortList(func(p []int) {
		if len(p) <= 2 {
			lists = append(lists, p)
		}
	})
	for _, wife := range lists {
		for _, child := range lists {
			c := impl.Classes{Wife: wife, Child: child}
			expect(t, impl.IsClasses(c), wantClasses(c), "IsClasses %v", c)
		}
	}
}

func TestP13SampleClasses(t *testing.T) {
	for name, want := range map[string]string{"kariera": "1032 3210", "circle": "1230 0123", "moieties": "10 01"} {
		expect(t, systemText(impl.SampleClasses(name)), want, "SampleClasses %s", name)
	}
	for _, name := range []string{"", "Kariera", "kariera ", " circle", "moiety", "circles", "moieties\x00", "\xff"} {
		expect(t, isZeroSystem(impl.SampleClasses(name)), true, "SampleClasses %q", name)
	}
}

// TestP13TypePermutation has a system in which all steps differ: Wife 1 2 3 0 and Child 2 0 1 3.
func TestP13TypePermutation(t *testing.T) {
	c := system(t, "1230 2013")
	const list = "m:F 1203; w:F 1203; m:M 2310; w:M 2310; m:B 0123; w:B 0123; m:eB 0123; w:yB 0123; m:Z 0123; w:eZ 0123; " +
		"m:S 2013; m:D 2013; w:S 3201; w:D 3201; H 3012; w:H 3012; W 1230; m:W 1230; . 0123; m:. 0123; w:. 0123; " +
		"m:MBD 1302; m:MyBD 1302; m:FZD 2031; HB 3012; HS 3201; WD 2013; WS 2013; HD 3201; " +
		"m:MZ 2310; w:FD 0123; m:MS 0123; m:FW 2310; w:MH 1203; m:SS 1203; m:FFF 0123; m:FFFFFFFF 2013; HWHWHWHW 0123; w:MMMMMMMM 0123"
	for _, text := range strings.Split(list, "; ") {
		kin, want, _ := strings.Cut(text, " ")
		p, ok := impl.TypePermutation(c, kinType(t, kin))
		expect(t, ok, true, "TypePermutation %s succeeds", kin)
		expect(t, permutationText(p), want, "TypePermutation %s", kin)
	}
	for _, kin := range []string{"F", "M", "B", "Z", "S", "D", "eB", "yZ", "FW", "MH", "FBSD", "SSSSSSSS"} {
		p, ok := impl.TypePermutation(c, kinType(t, kin))
		expect(t, !ok && len(p) == 0, true, "TypePermutation %s", kin)
	}
}

func TestP13TypePermutationOfSamples(t *testing.T) {
	cases := map[string]string{
		"kariera":  "m:F 3210; m:M 2301; w:F 3210; w:M 2301; m:S 3210; w:S 2301; W 1032; H 1032; m:FF 0123; m:MM 0123; m:FM 1032; m:MBD 1032; m:FZD 1032; m:ZD 2301; m:FBD 0123",
		"circle":   "m:F 0123; m:M 1230; w:F 0123; m:S 0123; w:S 3012; W 1230; H 3012; m:MBD 1230; m:FZD 3012; m:MM 2301; m:ZSS 3012; m:ZDD 2301",
		"moieties": "m:F 01; m:M 10; w:S 10; m:S 01; W 10; H 10; m:MBD 10; m:FZD 10; m:FBD 01; m:MZD 01",
	}
	for name, list := range cases {
		for _, text := range strings.Split(list, "; ") {
			kin, want, _ := strings.Cut(text, " ")
			p, ok := impl.TypePermutation(impl.SampleClasses(name), kinType(t, kin))
			expect(t, ok, true, "TypePermutation %s by %s succeeds", kin, name)
			expect(t, permutationText(p), want, "TypePermutation %s by %s", kin, name)
		}
	}
}

// checkClassesBy holds TypePermutation and AllowsType against the test's own rules.
func checkClassesBy(t *testing.T, c impl.Classes, k impl.KinType) {
	t.Helper()
	p, ok := impl.TypePermutation(c, k)
	want, wantOk := wantClassesBy(c, k)
	if ok != wantOk || !slices.Equal(p, want) {
		t.Fatalf("TypePermutation %v by %v: got %v, %v, want %v, %v", k, c, p, ok, want, wantOk)
	}
	if impl.AllowsType(c, k) != wantAllowed(c, k) {
		t.Fatalf("AllowsType %v by %v: got %v", k, c, impl.AllowsType(c, k))
	}
}

func TestP13TypePermutationByChance(t *testing.T) {
	r := newChance(115)
	types := typesUpTo(2)
	for _, c := range someSystems(t, r, 40) {
		for _, k := range types {
			checkClassesBy(t, c, k)
		}
		for range 100 {
			checkClassesBy(t, c, chanceType(r, r.IntN(9)))
		}
	}
}

func TestP13AllowsType(t *testing.T) {
	cases := map[string]string{
		"kariera":  "W yes; m:W yes; m:MBD yes; m:FZD yes; m:MBS no; m:Z no; m:M no; m:FM yes; FM no; WZ yes; WB no; w:H no; w:HZ no; H no; m:. no; . no; w:. no; m:ZDD no; m:SM yes; m:eBW yes",
		"circle":   "m:MBD yes; MBD no; m:FZD no; w:MBD no; m:MyBD yes; m:M yes; m:MZ yes; m:Z no; m:MB no; WMHM no; w:M no",
		"moieties": "m:M yes; w:M no; m:MB no; m:Z no; W yes; H no; w:H no; m:. no; m:ZD yes",
		"other":    "m:. no; W no; . no",
	}
	for name, list := range cases {
		for _, text := range strings.Split(list, "; ") {
			kin, want, _ := strings.Cut(text, " ")
			expect(t, impl.AllowsType(impl.SampleClasses(name), kinType(t, kin)), want == "yes", "AllowsType %s by %s", kin, name)
		}
	}
	// One class, in which everybody marries everybody: the sexes alone decide.
	c := system(t, "0 0")
	for kin, want := range map[string]bool{"m:Z": true, "m:M": true, "m:D": true, "W": true, "m:B": false, "m:.": false, "w:Z": false, "Z": false, "HM": false, "w:.": false} {
		expect(t, impl.AllowsType(c, kinType(t, kin)), want, "AllowsType %s with one class", kin)
	}
}

func TestP13AllowedTypes(t *testing.T) {
	cases := []struct {
		name string
		n    int
		want string
	}{
		{"kariera", 1, "m:W"},
		{"kariera", 2, "m:W m:FM m:BW m:SM m:DM m:DD m:WZ"},
		{"circle", 1, "m:M m:W"},
		{"circle", 2, "m:M m:W m:FM m:FW m:MZ m:BM m:BW m:ZM m:SM m:SW m:DM m:WZ"},
		{"moieties", 1, "m:M m:W"},
		{"moieties", 2, "m:M m:W m:FM m:FW m:MZ m:BM m:BW m:ZM m:ZD m:SM m:SW m:DM m:DD m:WZ"},
	}
	for _, c := range cases {
		got := textsOf(impl.AllowedTypes(impl.SampleClasses(c.name), c.n))
		expect(t, got, strings.Fields(c.want), "AllowedTypes %s %d", c.name, c.n)
	}
	for _, c := range someSystems(t, newChance(116), 10) {
		for n := 1; n <= 3; n++ {
			want := slices.DeleteFunc(wantTypesFrom(impl.Man, n), func(k impl.KinType) bool { return !wantAllowed(c, k) })
			expect(t, impl.AllowedTypes(c, n), want, "AllowedTypes %v %d", c, n)
		}
		for _, n := range []int{0, -1, 4, lowest, highest} {
			expect(t, len(impl.AllowedTypes(c, n)), 0, "AllowedTypes %v %d", c, n)
		}
	}
}

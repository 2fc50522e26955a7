package tests

import (
	"fmt"
	"slices"
	"strings"
	"testing"

	"loop.example/g03221/impl"
)

func TestP13GroupOf(t *testing.T) {
	cases := map[string]string{
		"0 0":       "0",
		"01 01":     "01",
		"10 01":     "01 10",
		"01 10":     "01 10",
		"10 10":     "01 10",
		"012 120":   "012 120 201",
		"102 021":   "012 021 102 120 201 210",
		"1032 3210": "0123 1032 2301 3210",
		"1230 0123": "0123 1230 2301 3012",
		"1023 0132": "0123 0132 1023 1032",
		"1230 1032": "0123 0321 1032 1230 2103 2301 3012 3210",
	}
	for text, want := range cases {
		group, ok := impl.GroupOf(system(t, text))
		texts := []string{}
		for _, p := range group {
			texts = append(texts, permutationText(p))
		}
		expect(t, strings.Join(texts, " "), want, "GroupOf %s", text)
		expect(t, ok, true, "GroupOf %s succeeds", text)
	}
}

// checkGroup holds GroupOf and IsRegular against the whole group.
func checkGroup(t *testing.T, c impl.Classes) int {
	t.Helper()
	want := wantGroup(c)
	group, ok := impl.GroupOf(c)
	if len(want) > 200 {
		expect(t, !ok && len(group) == 0, true, "GroupOf %s, which has %d permutations", systemText(c), len(want))
	} else {
		expect(t, ok && slices.EqualFunc(group, want, slices.Equal[[]int]), true, "GroupOf %s is %v", systemText(c), group)
	}
	expect(t, impl.IsRegular(c), wantRegular(c), "IsRegular %s", systemText(c))
	return len(want)
}

// TestP13MaxGroup: no group of permutations of eight numbers has from 193 to 200 of them.
func TestP13MaxGroup(t *testing.T) {
	cases := map[string]int{
		"12340 10234":       120,
		"2461035 6241350":   168,
		"57634120 71243065": 48,
		"01234756 30615274": 180,
		"16270543 70426135": 192,
		"0315624 3250416":   240,
		"143025 352041":     360,
		"123450 102345":     720,
		"1234560 1023456":   5040,
	}
	for text, want := range cases {
		expect(t, checkGroup(t, system(t, text)), want, "permutations of %s", text)
	}
	largest := system(t, "12345670 10234567")
	group, ok := impl.GroupOf(largest)
	expect(t, !ok && len(group) == 0, true, "GroupOf with all permutations of eight numbers")
	expect(t, impl.IsRegular(largest), false, "IsRegular with all permutations of eight numbers")
}

func TestP13GroupsByChance(t *testing.T) {
	r := newChance(117)
	for _, c := range someSystems(t, r, 0) {
		checkGroup(t, c)
	}
	small, large := 0, 0
	for range 150 {
		if size := checkGroup(t, chanceSystem(r, 3+r.IntN(4))); size > 200 {
			large++
		} else {
			small++
		}
	}
	if small < 20 || large < 20 {
		t.Errorf("%d groups are small, %d are large", small, large)
	}
}

func TestP13IsRegular(t *testing.T) {
	cases := map[string]bool{
		"0 0":               true,
		"01 01":             false,
		"10 01":             true,
		"01 10":             true,
		"10 10":             true,
		"012 120":           true,
		"102 021":           false, // more ways than one
		"102 102":           false, // none to the class 2
		"1032 3210":         true,
		"1032 1032":         false,
		"1023 0132":         false, // as many permutations as classes, but none from 0 to 2
		"1230 1032":         false,
		"1230 0123":         true,
		"120345 012453":     false,
		"123450 012345":     true,
		"325401 230154":     true,
		"32457601 23016745": true,
		"12345670 10234567": false,
	}
	for text, want := range cases {
		expect(t, impl.IsRegular(system(t, text)), want, "IsRegular %s", text)
	}
	for _, name := range systemNames() {
		expect(t, impl.IsRegular(impl.SampleClasses(name)), true, "IsRegular %s", name)
	}
	for n := 1; n <= 4; n++ {
		for _, c := range allSystems(n) {
			expect(t, impl.IsRegular(c), wantRegular(c), "IsRegular %s", systemText(c))
		}
	}
	regular := largeRegular(t)
	if len(regular) < 4 {
		t.Errorf("%d large regular systems", len(regular))
	}
	for _, c := range regular {
		expect(t, impl.IsRegular(c), true, "IsRegular %s", systemText(c))
	}
}

func TestP13ForbidsSiblings(t *testing.T) {
	cases := map[string]bool{
		"0 0": false, "10 01": true, "01 10": false, "102 120": false, "021 120": false, "210 012": false, "120 012": true,
		"1032 0123": true, "1230 3210": true, "12345670 01234567": true, "12345607 12345670": false,
	}
	for text, want := range cases {
		expect(t, impl.ForbidsSiblings(system(t, text)), want, "ForbidsSiblings %s", text)
	}
	for _, name := range systemNames() {
		expect(t, impl.ForbidsSiblings(impl.SampleClasses(name)), true, "ForbidsSiblings %s", name)
	}
	for _, c := range someSystems(t, newChance(118), 200) {
		want := true
		for i := range c.Wife {
			want = want && c.Wife[i] != i
		}
		expect(t, impl.ForbidsSiblings(c), want, "ForbidsSiblings %s", systemText(c))
	}
}

func TestP13RelabelClasses(t *testing.T) {
	cases := []struct{ system, names, want string }{
		{"0 0", "0", "0 0"},
		{"10 01", "10", "10 01"},
		{"120 102", "012", "120 102"},
		{"120 102", "120", "120 021"},
		{"120 102", "201", "120 210"},
		{"120 102", "021", "201 210"},
		{"1230 2013", "1230", "1230 0312"},
		{"1230 2013", "3021", "2310 3102"},
	}
	for _, c := range cases {
		d, ok := impl.RelabelClasses(system(t, c.system), digits(c.names))
		expect(t, systemText(d), c.want, "RelabelClasses %s by %s", c.system, c.names)
		expect(t, ok, true, "RelabelClasses %s by %s succeeds", c.system, c.names)
	}
	r := newChance(119)
	for _, c := range someSystems(t, r, 200) {
		p := r.Perm(len(c.Wife))
		d, ok := impl.RelabelClasses(c, p)
		expect(t, ok && isSameSystem(d, wantRelabeled(c, p)), true, "RelabelClasses %s by %v: %v", systemText(c), p, d)
	}
}

func TestP13RelabelClassesByOtherNames(t *testing.T) {
	lists := notPermutations()
	for _, text := range []string{"", "01", "0123", "0", "01234567", "013", "112", "123", "000", "777"} {
		lists[text] = digits(text)
	}
	lists["nil"] = nil
	for label, p := range lists {
		d, ok := impl.RelabelClasses(system(t, "120 102"), p)
		expect(t, !ok && isZeroSystem(d), true, "RelabelClasses by %s", label)
		if n := len(p); n >= 1 && n <= 8 && !wantPermutation(p) {
			d, ok := impl.RelabelClasses(chanceSystem(newChance(120), n), p)
			expect(t, !ok && isZeroSystem(d), true, "RelabelClasses by %s, as many as classes", label)
		}
	}
}

func TestP13CanonicalClasses(t *testing.T) {
	cases := map[string]string{
		"0 0":         "0 0",
		"01 10":       "01 10",
		"10 01":       "10 01",
		"201 012":     "120 012",
		"102 012":     "021 012",
		"012 102":     "012 021",
		"120 102":     "120 021",
		"201 201":     "120 120",
		"120 201":     "120 201",
		"1032 3210":   "1032 2301",
		"1230 0123":   "1230 0123",
		"3012 0123":   "1230 0123",
		"12340 01234": "12340 01234",
		"01234 43210": "01234 02143",
	}
	for text, want := range cases {
		c, ok := impl.CanonicalClasses(system(t, text))
		expect(t, systemText(c), want, "CanonicalClasses %s", text)
		expect(t, ok, true, "CanonicalClasses %s succeeds", text)
	}
	for n := 6; n <= 8; n++ {
		c, ok := impl.CanonicalClasses(chanceSystem(newChance(121), n))
		expect(t, !ok && isZeroSystem(c), true, "CanonicalClasses of %d classes", n)
	}
}

func TestP13CanonicalClassesByChance(t *testing.T) {
	r := newChance(122)
	list := slices.Concat(allSystems(1), allSystems(2), allSystems(3))
	for range 200 {
		list = append(list, chanceSystem(r, 4+r.IntN(2)))
	}
	for _, c := range list {
		d, ok := impl.CanonicalClasses(c)
		expect(t, ok && isSameSystem(d, wantCanonical(c)), true, "CanonicalClasses %s: %s", systemText(c), systemText(d))
	}
}

func TestP13SameClasses(t *testing.T) {
	cases := []struct {
		a, b string
		want bool
	}{
		{"0 0", "0 0", true},
		{"0 0", "01 01", false},
		{"10 01", "01 10", false},
		{"120 012", "201 012", true},
		{"012 120", "120 012", false},
		{"120 120", "201 201", true},
		{"120 201", "120 120", false},
		{"1032 3210", "3210 1032", true},
		{"1032 3210", "1230 0123", false},
		{"12340 01234", "20413 01234", true},
		{"123450 012345", "123450 012345", false}, // six classes
		{"01234 01234", "012345 012345", false},
	}
	for _, c := range cases {
		expect(t, impl.SameClasses(system(t, c.a), system(t, c.b)), c.want, "SameClasses %s and %s", c.a, c.b)
		expect(t, impl.SameClasses(system(t, c.b), system(t, c.a)), c.want, "SameClasses %s and %s", c.b, c.a)
	}
	list := slices.Concat(allSystems(1), allSystems(2), allSystems(3))
	canonical := []string{}
	for _, c := range list {
		canonical = append(canonical, fmt.Sprint(wantCanonical(c)))
	}
	for i, c := range list {
		for k, d := range list {
			expect(t, impl.SameClasses(c, d), canonical[i] == canonical[k], "SameClasses %s and %s", systemText(c), systemText(d))
		}
	}
}

func TestP13AllRegular(t *testing.T) {
	cases := map[int]string{
		1: "0 0",
		2: "01 10; 10 01; 10 10",
		3: "012 120; 120 012; 120 120; 120 201",
		4: "0123 1230; 1032 2301; 1032 2310; 1230 0123; 1230 1230; 1230 2301; 1230 3012",
	}
	for n, want := range cases {
		expect(t, systemTexts(impl.AllRegular(n)), want, "AllRegular %d", n)
		expect(t, systemTexts(wantAllRegular(n)), want, "the test's own rules, %d", n)
	}
	for _, n := range []int{0, -1, 5, 6, 8, 9, lowest, highest} {
		expect(t, len(impl.AllRegular(n)), 0, "AllRegular %d", n)
	}
}

func TestP13ProductClasses(t *testing.T) {
	cases := []struct{ a, b, want string }{
		{"0 0", "0 0", "0 0"},
		{"0 0", "120 102", "120 102"},
		{"120 102", "0 0", "120 102"},
		{"10 01", "10 01", "3210 0123"},
		{"10 01", "01 10", "2301 1032"},
		{"01 10", "10 01", "1032 2301"},
		{"10 01", "120 102", "453120 102435"},
		{"120 102", "10 01", "325410 230145"},
		{"1032 3210", "10 01", "32107654 67452301"},
		{"10 01", "1230 0123", "56741230 01234567"},
		{"01234567 12345670", "0 0", "01234567 12345670"},
		{"120 102", "120 102", ""},
		{"10 01", "12340 01234", ""},
		{"12340 01234", "10 01", ""},
		{"01234567 12345670", "10 01", ""},
		{"01234567 12345670", "01234567 12345670", ""},
	}
	for _, c := range cases {
		d, ok := impl.ProductClasses(system(t, c.a), system(t, c.b))
		expect(t, strings.Trim(systemText(d), " "), c.want, "ProductClasses %s and %s", c.a, c.b)
		expect(t, ok, c.want != "", "ProductClasses %s and %s succeeds", c.a, c.b)
	}
	r := newChance(123)
	for n := 1; n <= 8; n++ {
		for m := 1; m <= 8; m++ {
			a, b := chanceSystem(r, n), chanceSystem(r, m)
			d, ok := impl.ProductClasses(a, b)
			if n*m > 8 {
				expect(t, !ok && isZeroSystem(d), true, "ProductClasses of %d and %d classes", n, m)
			} else {
				expect(t, ok && isSameSystem(d, wantProduct(a, b)), true, "ProductClasses %s and %s: %v", systemText(a), systemText(b), d)
			}
		}
	}
}

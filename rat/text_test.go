package rat_test

import (
	"strconv"
	"strings"
	"testing"

	"cleaver/api"
	"cleaver/rat"
)

// P3.2

func TestText(t *testing.T) {
	for _, c := range []struct {
		a  api.Rat
		is string
	}{
		{api.Rat{}, "0"},
		{api.Rat{Num: api.Int{Neg: true, Abs: []uint64{7}}}, "0"},
		{api.Rat{Num: api.Int{Neg: true}, Den: []uint64{7}}, "0"},
		{api.Rat{Num: api.Int{Abs: []uint64{7}}, Den: []uint64{1, 0}}, "7"},
		{api.Rat{Num: api.Int{Neg: true, Abs: []uint64{6}}, Den: []uint64{4}}, "-3/2"},
		{api.Rat{Num: api.Int{Neg: true, Abs: []uint64{8}}, Den: []uint64{4}}, "-2"},
		{api.Rat{Num: api.Int{Abs: []uint64{12}}, Den: []uint64{18, 0}}, "2/3"},
		{api.Rat{Num: api.Int{Abs: []uint64{1}}, Den: []uint64{0, 1}}, "1/18446744073709551616"},
	} {
		if is := rat.Text(c.a); is != c.is {
			t.Errorf("Text(%v): %s", c.a, is)
		}
	}
	pairs(func(a, b api.Rat) {
		if is := rat.Text(a); is != value(a).RatString() {
			t.Errorf("Text(%v): %s", a, is)
		}
	})
}

// A number is told whole, though it has more digits than are read.
func TestTextOfLong(t *testing.T) {
	a := frac("1/" + strings.Repeat("7", api.MaxText+1))
	if is := rat.Text(a); is != value(a).RatString() {
		t.Error("Text of more digits than MaxText")
	}
}

func TestParse(t *testing.T) {
	for _, s := range []string{
		"0", "1", "-1", "7", "-7", "1/2", "-1/2", "3/2", "-3/2", "10/7", "1/10", "18446744073709551616/18446744073709551617",
		"-1/18446744073709551616", "18446744073709551616", "100/99",
	} {
		if a, e := rat.Parse(s); e != api.OK || !same(a, frac(s)) || rat.Text(a) != s {
			t.Errorf("Parse(%q): %v, %v", s, a, e)
		}
	}
}

func TestParseRefuses(t *testing.T) {
	for _, s := range []string{
		"", "/", "-", "-/", "1/", "/2", "-/2", "1/2/3", "1//2", "/1/2", "1/2/",
		"2/4", "-6/4", "4/2", "3/3", "1/1", "-7/1", "0/1", "0/5", "-0", "-0/3",
		"0/0", "1/0", "-1/0", "1/00", "2/-3", "-2/-3", "1/+2", "+1/2", "+1", "--1/2",
		"01/2", "1/02", "00", "007", "1/2 ", " 1/2", "1 /2", "1/ 2", "1/2\n", "\x001/2", "1/2\x00",
		"1.5", "1,5", "1e3", "0x1/2", "1_0/3", "a", "1/a", "½", "１/２", "1∕2", "1\\2", "\xff/2", "1/\xff",
	} {
		if a, e := rat.Parse(s); e != api.ErrText || !isZeroValue(a) {
			t.Errorf("Parse(%q): %v, %v", s, a, e)
		}
	}
}

// MaxText counts the digits of each number for itself, and no sign.
func TestParseOfLong(t *testing.T) {
	most := strings.Repeat("7", api.MaxText)
	below := strings.Repeat("9", api.MaxText-1) + "8" // 9..9 less 1, which 7..7 has no divisor in common with but 1
	for _, s := range []string{most, "-" + most, "1/" + most, most + "/2", "-" + most + "/" + below} {
		if a, e := rat.Parse(s); e != api.OK || !same(a, frac(s)) {
			t.Errorf("Parse of %d bytes, %.10s..: %v", len(s), s, e)
		}
	}
	for _, s := range []string{
		most + "7", "-" + most + "7", "1/" + most + "7", most + "7/2", most + "7/" + below, "-" + most + "/" + below + "1",
		strings.Repeat("/", 1<<16), strings.Repeat("1", 1<<20), strings.Repeat("1", 1<<20) + "/2",
	} {
		if a, e := rat.Parse(s); e != api.ErrText || !isZeroValue(a) {
			t.Errorf("Parse of %d bytes, %.10s..: %v", len(s), s, e)
		}
	}
}

func TestThereAndBack(t *testing.T) {
	pairs(func(a, b api.Rat) {
		if back, e := rat.Parse(rat.Text(a)); e != api.OK || !same(back, rat.Norm(a)) {
			t.Fatalf("Parse of Text: %v: %v, %v", a, back, e)
		}
	})
}

// Of all short texts just those are read that Text answers, each as the number of which it is the text.
func TestParseOfAllShortTexts(t *testing.T) {
	const signs = "012349-/ "
	told := shortTexts()
	var tryAll func(s string)
	tryAll = func(s string) {
		a, e := rat.Parse(s)
		switch {
		case told[s]:
			if e != api.OK || !same(a, frac(s)) || rat.Text(a) != s {
				t.Fatalf("Parse(%q): %v, %v", s, a, e)
			}
		case e != api.ErrText || !isZeroValue(a):
			t.Fatalf("Parse(%q): %v, %v", s, a, e)
		}
		for i := 0; i < len(signs) && len(s) < shortText; i++ {
			tryAll(s + signs[i:i+1])
		}
	}
	tryAll("")
}

const shortText = 5

// shortTexts are the texts of all fractions whose texts are short.
func shortTexts() map[string]bool {
	told := map[string]bool{}
	for num := -9999; num < 100_000; num++ {
		told[strconv.Itoa(num)] = true
	}
	for num := -99; num < 1000; num++ {
		for den := 2; den < 1000; den++ {
			s := strconv.Itoa(num) + "/" + strconv.Itoa(den)
			if len(s) <= shortText && areCoprime(num, den) {
				told[s] = true
			}
		}
	}
	return told
}

func areCoprime(a, b int) bool {
	for b != 0 {
		a, b = b, a%b
	}
	return a == 1 || a == -1
}

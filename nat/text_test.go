package nat_test

import (
	"slices"
	"strings"
	"testing"

	"cleaver/api"
	"cleaver/nat"
)

// P1.4

func TestText(t *testing.T) {
	for _, c := range []struct {
		a  []uint64
		is string
	}{
		{nil, "0"}, {[]uint64{0, 0}, "0"}, {[]uint64{7, 0}, "7"}, {[]uint64{10}, "10"},
		{[]uint64{9_999_999_999_999_999_999}, "9999999999999999999"},
		{[]uint64{10_000_000_000_000_000_000}, "10000000000000000000"},
		{[]uint64{10_000_000_000_000_000_007}, "10000000000000000007"},
		{[]uint64{most}, "18446744073709551615"}, {[]uint64{0, 1}, "18446744073709551616"},
	} {
		if is := nat.Text(c.a); is != c.is {
			t.Errorf("Text(%v): %s", c.a, is)
		}
	}
	pairs(func(a, b []uint64) {
		if is := nat.Text(a); is != value(a).String() {
			t.Errorf("Text(%x): %s", a, is)
		}
	})
	m := maker(6)
	if a := m.some(4096); nat.Text(a) != value(a).String() {
		t.Error("Text of 4096 limbs")
	}
}

func TestTextOfTens(t *testing.T) {
	tens := "1"
	for len(tens) <= 100 {
		number, e := nat.Parse(tens)
		if e != api.OK || nat.Text(number) != tens {
			t.Error(tens, number, e)
		}
		tens += "0"
	}
}

func TestParse(t *testing.T) {
	for _, c := range []struct {
		s  string
		is []uint64
	}{
		{"0", nil}, {"9", []uint64{9}}, {"10", []uint64{10}}, {"18446744073709551615", []uint64{most}},
		{"18446744073709551616", []uint64{0, 1}}, {"340282366920938463463374607431768211456", []uint64{0, 0, 1}},
	} {
		if number, e := nat.Parse(c.s); !slices.Equal(number, c.is) || e != api.OK {
			t.Errorf("Parse(%q): %v, %v", c.s, number, e)
		}
	}
	for n := range 80 {
		checkParse(t, strings.Repeat("7", n+1))
	}
	for _, s := range []string{strings.Repeat("9", 4096), "1" + strings.Repeat("0", 4095), strings.Repeat("1234567890", 409)} {
		checkParse(t, s)
	}
}

func checkParse(t *testing.T, s string) {
	t.Helper()
	number, e := nat.Parse(s)
	if e != api.OK || !isPlain(number) || value(number).String() != s {
		t.Errorf("Parse(%q): %x, %v", s, number, e)
	}
}

func TestParseRefuses(t *testing.T) {
	wrong := []string{
		"", " ", "00", "01", "007", "-1", "-0", "+1", " 1", "1 ", "1\n", "1\x00", "\x00", "a", "1a", "a1", "0x1", "1e3", "1.0", "1_000", "1,000",
		"/", ":", "1/", "1:", "\xff", "1\xff", "\u0661", "\uff11", "12345678901234567890123456789x",
		strings.Repeat("0", 4096), strings.Repeat("1", 4095) + "x", "0" + strings.Repeat("1", 4095),
		strings.Repeat("1", 4097), strings.Repeat("0", 4097), strings.Repeat("9", 1<<20),
	}
	for _, s := range wrong {
		if number, e := nat.Parse(s); number != nil || e != api.ErrText {
			t.Errorf("Parse(%.40q): %v, %v", s, number, e)
		}
	}
}

// Each single byte ahead of, within and behind a number is refused, unless it is a digit.
func TestParseBytes(t *testing.T) {
	for c := range 256 {
		b := string([]byte{byte(c)})
		for _, s := range []string{b, b + "5", "5" + b + "5", "5" + b} {
			digit := c >= '0' && c <= '9' && (s[0] != '0' || len(s) == 1)
			if _, e := nat.Parse(s); (e == api.OK) != digit || e != api.OK && e != api.ErrText {
				t.Errorf("Parse(%q): %v", s, e)
			}
		}
	}
}

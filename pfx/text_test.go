package pfx_test

import (
	"math/rand"
	"strings"
	"testing"

	"wayfinder/api"
	"wayfinder/pfx"
)

// badAddrs: texts that have not the form of an address.
var badAddrs = []string{
	"", ".", "...", "1", "1.2", "1.2.3", "1.2.3.", ".1.2.3", "1..2.3", "1.2.3.4.", ".1.2.3.4", "1.2.3.4.5",
	"10.0.0.01", "00.0.0.0", "0.0.0.00", "010.0.0.0", "0.000.0.0", "1.2.3.1000", "1000.1.1.1", "0000.0.0.0", "1.2.3.99999999999999999999",
	" 1.2.3.4", "1.2.3.4 ", "1. 2.3.4", "1.2.3.4\n", "1.2.3.4\x00", "+1.2.3.4", "-1.2.3.4", "1.2.3.-4", "1.2.3.+4",
	"a.b.c.d", "1.2.3.a", "1.2.3.4a", "0x1.2.3.4", "1,2,3,4", "1.2.3.4/", "1.2.3.4/8", "1.2.3/4", "1_0.2.3.4",
	"\uff11.2.3.4", "\u0661.2.3.4", "\xff.2.3.4", "1.2.3.\xb2", "1e1.2.3.4",
	// The form is judged ahead of the range.
	"256.0.0.01", "999.0.0", "256.256.256.256.256", "300.1.1.1 ",
}

func TestA1ParseAddr(t *testing.T) {
	for s, want := range map[string]uint32{
		"10.0.0.1": 0x0a000001, "0.0.0.0": 0, "255.255.255.255": 0xffffffff, "1.2.3.4": 0x01020304,
		"100.20.3.0": 0x64140300, "0.0.0.255": 255, "255.0.0.0": 0xff000000, "199.200.249.250": 0xc7c8f9fa,
	} {
		if a, e := pfx.ParseAddr(s); a != want || e != api.OK {
			t.Errorf("ParseAddr %q: %d %v, must be %d ok", s, a, e, want)
		}
	}
	for _, s := range []string{"256.0.0.0", "0.256.0.0", "0.0.256.0", "0.0.0.256", "999.999.999.999", "10.0.0.300"} {
		if a, e := pfx.ParseAddr(s); a != 0 || e != api.ErrRange {
			t.Errorf("ParseAddr %q: %d %v, must be 0 range", s, a, e)
		}
	}
	for _, s := range append(badAddrs, strings.Repeat("1.", 100000), strings.Repeat("1", 100000)) {
		if a, e := pfx.ParseAddr(s); a != 0 || e != api.ErrText {
			t.Errorf("ParseAddr %.30q: %d %v, must be 0 text", s, a, e)
		}
	}
}

func TestA1PrintAddr(t *testing.T) {
	for a, want := range map[uint32]string{
		0: "0.0.0.0", 1: "0.0.0.1", 0x0a000001: "10.0.0.1", 0xffffffff: "255.255.255.255", 0x01020304: "1.2.3.4", 0x64630a09: "100.99.10.9",
	} {
		if got := pfx.PrintAddr(a); got != want {
			t.Errorf("PrintAddr %d: %q, must be %q", a, got, want)
		}
	}
	r := rand.New(rand.NewSource(1))
	for range 2000 {
		a := r.Uint32()
		if got, e := pfx.ParseAddr(pfx.PrintAddr(a)); got != a || e != api.OK {
			t.Fatalf("%d is printed as %q, which is read as %d %v", a, pfx.PrintAddr(a), got, e)
		}
	}
}

func TestA2Parse(t *testing.T) {
	for s, want := range map[string]api.Prefix{
		"10.0.0.0/8": at(0x0a000000, 8), "0.0.0.0/0": at(0, 0), "0.0.0.0/32": at(0, 32), "1.2.3.4/32": at(0x01020304, 32),
		"255.255.255.254/31": at(0xfffffffe, 31), "128.0.0.0/1": at(1<<31, 1), "255.255.255.255/32": at(0xffffffff, 32), "10.64.0.0/10": at(0x0a400000, 10),
	} {
		if p, e := pfx.Parse(s); p != want || e != api.OK {
			t.Errorf("Parse %q: %v %v, must be %v ok", s, p, e, want)
		}
	}
	refused := func(want api.Errno, texts ...string) {
		for _, s := range texts {
			if p, e := pfx.Parse(s); p != (api.Prefix{}) || e != want {
				t.Errorf("Parse %.40q: %v %v, must be {0 0} %v", s, p, e, want)
			}
		}
	}
	refused(api.ErrText, "", "/", "/8", "10.0.0.0", "10.0.0.0/", "10.0.0.0/08", "10.0.0.0/00", "10.0.0.0/100", "10.0.0.0/000", "10.0.0.0//8",
		"10.0.0.0/8/", "10.0.0.0/8/8", "10.0.0.0/8 ", " 10.0.0.0/8", "10.0.0.0 /8", "10.0.0.0/ 8", "10.0.0.0/-1", "10.0.0.0/+8", "10.0.0.0/a", "10.0.0.0/8a",
		"10.0.0/8", "10.0.0.0.0/8", "10.0.0.01/8", "10.0.0.0/\uff18", "10.0.0.0\\8", "10.0.0.0/8.", "10.0.0.0./8", "10.0.0.0/"+strings.Repeat("1", 100000))
	// The form is judged ahead of the range, the range ahead of the bits.
	refused(api.ErrText, "10.0.0.256/033", "10.0.0.256/", "10.0.0.01/33", "10.0.0.1/008")
	refused(api.ErrRange, "10.0.0.256/33", "10.0.0.256/8", "10.256.0.0/0", "256.0.0.0/8", "10.0.256.0/24", "10.0.0.0/33", "10.0.0.0/99", "10.0.0.1/33", "999.999.999.999/99")
	refused(api.ErrBits, "10.0.0.1/8", "0.0.0.1/0", "128.0.0.0/0", "255.255.255.255/31", "10.128.0.0/8", "0.0.0.1/31")
	for _, s := range badAddrs {
		refused(api.ErrText, s+"/8")
	}
}

func TestA2Print(t *testing.T) {
	for want, p := range map[string]api.Prefix{
		"10.0.0.0/8": at(0x0a000000, 8), "0.0.0.0/0": at(0, 0), "1.2.3.4/32": at(0x01020304, 32), "255.255.255.254/31": at(0xfffffffe, 31),
	} {
		if got := pfx.Print(p); got != want {
			t.Errorf("Print %v: %q, must be %q", p, got, want)
		}
	}
	for _, p := range wrong {
		if got := pfx.Print(p); got != "" {
			t.Errorf("Print %v: %q, must be nothing", p, got)
		}
	}
	r := rand.New(rand.NewSource(2))
	for range 2000 {
		p := randomPrefix(r)
		if got, e := pfx.Parse(pfx.Print(p)); got != p || e != api.OK {
			t.Fatalf("%v is printed as %q, which is read as %v %v", p, pfx.Print(p), got, e)
		}
	}
}

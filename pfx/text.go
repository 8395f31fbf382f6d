package pfx

import (
	"strconv"
	"strings"

	"wayfinder/api"
)

// quad is an address's four numbers as they are written; they may still be above 255, since the form of the whole text is judged ahead of their range.
type quad [4]int

// ParseAddr reads an address.
func ParseAddr(s string) (uint32, api.Errno) {
	q, rest, ok := readQuad(s)
	if !ok || rest != "" {
		return 0, api.ErrText
	}
	a, ok := joinQuad(q)
	if !ok {
		return 0, api.ErrRange
	}
	return a, api.OK
}

// PrintAddr gives an address's text.
func PrintAddr(a uint32) string {
	var text []byte
	for shift := 24; shift >= 0; shift -= 8 {
		text = strconv.AppendUint(text, uint64(a>>shift&255), 10)
		if shift > 0 {
			text = append(text, '.')
		}
	}
	return string(text)
}

// Parse reads a prefix.
func Parse(s string) (api.Prefix, api.Errno) {
	q, rest, ok := readQuad(s)
	if !ok {
		return api.Prefix{}, api.ErrText
	}
	rest, ok = strings.CutPrefix(rest, "/")
	if !ok {
		return api.Prefix{}, api.ErrText
	}
	length, rest, ok := readNumber(rest, 2)
	if !ok || rest != "" {
		return api.Prefix{}, api.ErrText
	}
	a, ok := joinQuad(q)
	if !ok || length > addrBits {
		return api.Prefix{}, api.ErrRange
	}
	p := api.Prefix{Addr: a, Len: length}
	if !Valid(p) {
		return api.Prefix{}, api.ErrBits
	}
	return p, api.OK
}

// Print gives a prefix's text.
func Print(p api.Prefix) string {
	if !Valid(p) {
		return ""
	}
	return PrintAddr(p.Addr) + "/" + strconv.Itoa(p.Len)
}

// readQuad reads four numbers joined by dots at the beginning of s, and answers what stands behind them.
func readQuad(s string) (q quad, rest string, ok bool) {
	rest = s
	for i := range q {
		if i > 0 {
			rest, ok = strings.CutPrefix(rest, ".")
			if !ok {
				return quad{}, "", false
			}
		}
		q[i], rest, ok = readNumber(rest, 3)
		if !ok {
			return quad{}, "", false
		}
	}
	return q, rest, true
}

// readNumber reads a number of one to most digits at the beginning of s, and answers what stands behind it. A digit beyond most is left in there, where no text goes on with a digit, and so is refused by whoever reads on.
func readNumber(s string, most int) (n int, rest string, ok bool) {
	count := 0
	for count < len(s) && count < most && s[count] >= '0' && s[count] <= '9' {
		n = n*10 + int(s[count]-'0')
		count++
	}
	if count == 0 || count > 1 && s[0] == '0' {
		return 0, "", false
	}
	return n, s[count:], true
}

// joinQuad makes an address of four numbers; not ok when one of them is no byte.
func joinQuad(q quad) (a uint32, ok bool) {
	for _, n := range q {
		if n > 255 {
			return 0, false
		}
		a = a<<8 | uint32(n)
	}
	return a, true
}

package policy

import (
	"strconv"
	"strings"

	"wayfinder/api"
)

// The bytes of which words and names are made.
const (
	letters   = "abcdefghijklmnopqrstuvwxyz"
	nameBytes = letters + "0123456789-"
	wordBytes = nameBytes + ".:/"
)

// The words for what api numbers: each stands at its number, and those that are "" are no words.

func fieldWords() []string {
	return []string{api.FieldPref: "pref", api.FieldMed: "med", api.FieldLength: "length", api.FieldOrigin: "origin"}
}

func opWords() []string {
	return []string{api.OpEqual: "=", api.OpLess: "<", api.OpGreater: ">"}
}

func actionWords() []string {
	return []string{
		api.ActAccept: "accept", api.ActReject: "reject", api.ActPref: "pref", api.ActMed: "med",
		api.ActAdd: "add", api.ActDrop: "drop", api.ActPrepend: "prepend", api.ActCall: "call",
	}
}

func repeatWords() []string {
	return []string{api.PatStar: "*", api.PatPlus: "+", api.PatMaybe: "?"}
}

func isName(s string) bool {
	return len(s) <= api.MaxWord && s != "" && strings.Contains(letters, s[:1]) && strings.TrimLeft(s, nameBytes) == ""
}

// numberOf gives what digits stand for; ok says whether they have the form of a number. What is beyond all bounds is just beyond them: so it stays a number however many digits there are.
func numberOf(digits string) (n int, ok bool) {
	for _, d := range digits {
		if d < '0' || d > '9' {
			return 0, false
		}
		n = min(10*n+int(d-'0'), maxNumber+1)
	}
	return n, digits == "0" || digits != "" && digits[0] != '0'
}

// halvesOf gives the two numbers of a mark; ok says whether it has the form of one.
func halvesOf(word string) (high, low int, ok bool) {
	first, second, _ := strings.Cut(word, ":")
	high, highOK := numberOf(first)
	low, lowOK := numberOf(second)
	return high, low, highOK && lowOK
}

func markText(n int) string {
	return strconv.Itoa(n/markHalf) + ":" + strconv.Itoa(n%markHalf)
}

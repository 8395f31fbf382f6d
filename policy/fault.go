package policy

import (
	"strconv"

	"wayfinder/api"
)

// Fault is what is wrong with a text, and where.
type Fault struct {
	code api.Errno
	at   int
}

// Code says what is wrong.
func (f *Fault) Code() api.Errno { return f.code }

// At says where.
func (f *Fault) At() int { return f.at }

// Error says both in words.
func (f *Fault) Error() string { return f.code.Error() + " at " + strconv.Itoa(f.at) }

// Unwrap gives the code.
func (f *Fault) Unwrap() error { return f.code }

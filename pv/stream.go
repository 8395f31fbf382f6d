package pv

import (
	"wayfinder/api"
)

// Stream takes bytes as they come.
type Stream struct {
	begun []byte // of a message that is not whole
	fault api.Errno
}

// NewStream begins one.
func NewStream() *Stream { return &Stream{} }

// Waiting tells how many bytes wait.
func (s *Stream) Waiting() int { return len(s.begun) }

// Take takes some more.
func (s *Stream) Take(b []byte) ([]api.PvMessage, api.Errno) {
	var out []api.PvMessage
	for len(b) > 0 && s.fault == api.OK {
		size := min(s.missing(), len(b))
		s.begun = append(s.begun, b[:size:size]...)
		b = b[size:]
		if m, ok := s.message(); ok {
			out = append(out, m)
		}
	}
	return out, s.fault
}

// missing tells how many bytes are needed next: for the length to be there, and then for the whole message.
func (s *Stream) missing() int {
	if !tellsSize(s.begun) {
		return kindAt - len(s.begun)
	}
	return sizeOf(s.begun) - len(s.begun)
}

// message looks at what has begun: it gives the message, if that is whole now, or finds the fault.
func (s *Stream) message() (m api.PvMessage, ok bool) {
	s.fault = checkBegin(s.begun)
	whole := s.fault == api.OK && s.missing() == 0
	if whole {
		m, s.fault = Decode(s.begun)
	}
	if whole || s.fault != api.OK {
		s.begun = nil
	}
	return m, whole && s.fault == api.OK
}

// Package lock knows the words that guard stripes: a version, and who holds it.
package lock

import (
	"quietus/api"
)

// length of a lock's bytes: eight of the version, one of the holder.
const length = 9

// Is tells whether l is a lock that can be.
func Is(l api.Lock) bool {
	if l.Version >= api.MaxClock {
		return false
	}
	if l.Held {
		return mayHold(l.Owner)
	}
	return l.Owner == 0
}

// Free makes a lock of that version that nobody holds.
func Free(version uint64) (api.Lock, bool) {
	if version >= api.MaxClock {
		return api.Lock{}, false
	}
	return api.Lock{Version: version}, true
}

// Take answers l, held by owner.
func Take(l api.Lock, owner int) (api.Lock, bool) {
	if !Is(l) || l.Held || !mayHold(owner) {
		return api.Lock{}, false
	}
	return api.Lock{Version: l.Version, Held: true, Owner: owner}, true
}

// Drop answers the lock that the held one, l, is when it is let go at version.
func Drop(l api.Lock, version uint64) (api.Lock, bool) {
	if !Is(l) || !l.Held || version < l.Version {
		return api.Lock{}, false
	}
	return Free(version)
}

// Fits tells whether what l guards can be read as it was at stamp.
func Fits(l api.Lock, stamp uint64) bool {
	return Is(l) && !l.Held && l.Version <= stamp
}

// Bytes writes l as nine bytes, of what is no lock as none.
func Bytes(l api.Lock) string {
	if !Is(l) {
		return ""
	}
	b := make([]byte, 0, length)
	for shift := 56; shift >= 0; shift -= 8 {
		b = append(b, byte(l.Version>>shift))
	}
	return string(append(b, holder(l)))
}

// Read answers the lock whose Bytes s is.
func Read(s string) (api.Lock, bool) {
	if len(s) != length {
		return api.Lock{}, false
	}
	var l api.Lock
	for i := 0; i < length-1; i++ {
		l.Version = l.Version<<8 | uint64(s[i])
	}
	if last := s[length-1]; last > 0 {
		l.Held, l.Owner = true, int(last)-1
	}
	if !Is(l) {
		return api.Lock{}, false
	}
	return l, true
}

// holder is 0 where nobody holds l, so that owner 0 is told from nobody.
func holder(l api.Lock) byte {
	if !l.Held {
		return 0
	}
	return byte(l.Owner + 1)
}

func mayHold(owner int) bool { return owner >= 0 && owner < api.MaxThreads }

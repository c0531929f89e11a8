package engine

import "kist/names"

// inodeSize is how many bytes an inode has in a key, behind its letter.
const inodeSize = 3

// placeSize is how many bytes a place has behind the inode.
const placeSize = 2

// mayBeKey tells whether a key is of one of the kinds that a version's tree has.
func mayBeKey(key string) bool {
	if len(key) < 1+inodeSize {
		return false
	}
	inode, behind := key[1:1+inodeSize], key[1+inodeSize:]
	switch key[0] {
	case 'd':
		return names.Name(behind)
	case 'i':
		return behind == "" && inode != "\x00\x00\x00" // of the directory / nothing is told
	case 'x':
		return len(behind) == placeSize
	}
	return false
}
